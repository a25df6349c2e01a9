/-
  Nodes with one entry more or less, as plain mathematics. No condition.
-/
import Derived.Test.YtmapkmjhpebcbaaNodeM
namespace Go.Proofs.Ytmapkmjhpebcbaa
open Go Go.RowKit

/-- The names of entries. -/
def nmE (l : List En) : List Nm := l.map Prod.fst
/-- The node of the first entry with a name; 0: there is none. -/
def fnd : List En → Nm → Int
  | [], _ => 0
  | e :: l, n => if e.1 = n then e.2 else fnd l n
/-- Entries without the first one with a name. -/
def del : List En → Nm → List En
  | [], _ => []
  | e :: l, n => if e.1 = n then l else e :: del l n
theorem len_nmE (l : List En) : (nmE l).length = l.length := List.length_map ..
theorem mem_nmE {l : List En} {e : En} (h : e ∈ l) : e.1 ∈ nmE l := List.mem_map.2 ⟨e, h, rfl⟩
theorem fnd_none : ∀ {l : List En} {n : Nm}, ¬ n ∈ nmE l → fnd l n = 0
  | [], _, _ => rfl
  | e :: l, n, h => by
    rw [fnd, if_neg (fun q => h (by rw [← q]; exact List.mem_cons_self ..))]
    exact fnd_none (fun q => h (List.mem_cons_of_mem _ q))
theorem fnd_some : ∀ {l : List En} {n : Nm}, n ∈ nmE l → ∃ e ∈ l, e.1 = n ∧ fnd l n = e.2
  | [], _, h => by cases h
  | e :: l, n, h => by
    by_cases q : e.1 = n
    · exact ⟨e, List.mem_cons_self .., q, by rw [fnd, if_pos q]⟩
    · have h2 : n ∈ nmE l := by
        rcases List.mem_cons.1 h with h | h
        · exact absurd h.symm q
        · exact h
      obtain ⟨f, h3, h4, h5⟩ := fnd_some h2
      exact ⟨f, List.mem_cons_of_mem _ h3, h4, by rw [fnd, if_neg q]; exact h5⟩
theorem fnd_at : ∀ {l : List En} {e : En}, rise (nmE l) → e ∈ l → fnd l e.1 = e.2
  | [], _, _, h => by cases h
  | f :: l, e, hr, h => by
    obtain ⟨h1, h2⟩ := List.pairwise_cons.1 hr
    rcases List.mem_cons.1 h with rfl | h
    · rw [fnd, if_pos rfl]
    · rw [fnd, if_neg (lss_ne (h1 _ (mem_nmE h)))]
      exact fnd_at h2 h
theorem del_sub : ∀ (l : List En) (n : Nm), (del l n).Sublist l
  | [], _ => List.Sublist.refl _
  | e :: l, n => by
    rw [del]
    split
    · exact List.sublist_cons_self ..
    · exact (del_sub l n).cons_cons e
theorem del_rise {l : List En} (n : Nm) (h : rise (nmE l)) : rise (nmE (del l n)) := List.Pairwise.sublist ((del_sub l n).map _) h
theorem del_len : ∀ {l : List En} {n : Nm}, n ∈ nmE l → (del l n).length + 1 = l.length
  | [], _, h => by cases h
  | e :: l, n, h => by
    rw [del]
    split
    · rfl
    · rename_i q
      have h2 : n ∈ nmE l := by
        rcases List.mem_cons.1 h with h | h
        · exact absurd h.symm q
        · exact h
      rw [List.length_cons, List.length_cons, del_len h2]
theorem del_gone : ∀ {l : List En} {n : Nm}, rise (nmE l) → ¬ n ∈ nmE (del l n)
  | [], _, _ => by intro h; cases h
  | e :: l, n, hr => by
    obtain ⟨h1, h2⟩ := List.pairwise_cons.1 hr
    rw [del]
    split
    · rename_i q
      intro h
      exact lss_ne (h1 n h) q
    · rename_i q
      intro h
      rcases List.mem_cons.1 h with h | h
      · exact q h.symm
      · exact del_gone h2 h
theorem del_ins {n : Nm} {i : Int} : ∀ {l : List En}, ¬ n ∈ nmE l → del (ins (n, i) l) n = l
  | [], _ => by rw [ins, del, if_pos rfl]
  | e :: l, h => by
    rw [ins]
    split
    · rw [del, if_pos rfl]
    · rw [del, if_neg (fun q => h (by rw [← q]; exact List.mem_cons_self ..)), del_ins (fun q => h (List.mem_cons_of_mem _ q))]
theorem fnd_ins {n : Nm} {i : Int} : ∀ {l : List En}, ¬ n ∈ nmE l → fnd (ins (n, i) l) n = i
  | [], _ => by rw [ins, fnd, if_pos rfl]
  | e :: l, h => by
    rw [ins]
    split
    · rw [fnd, if_pos rfl]
    · rw [fnd, if_neg (fun q => h (by rw [← q]; exact List.mem_cons_self ..)), fnd_ins (fun q => h (List.mem_cons_of_mem _ q))]
theorem nmE_ins (x : En) (l : List En) : nmE (ins x l) = insN x.1 (nmE l) := ins_names x l
/-- Rising, name by name. -/
theorem rise_adj : ∀ {l : List Nm}, (∀ i a b, l[i]? = some a → l[i + 1]? = some b → lss a b = true) → rise l
  | [], _ => List.Pairwise.nil
  | [x], _ => List.pairwise_singleton _ _
  | x :: y :: l, h => by
    have ih : rise (y :: l) := rise_adj (fun i a b ha hb => h (i + 1) a b (by simpa using ha) (by simpa using hb))
    have hxy : lss x y = true := h 0 x y rfl rfl
    refine List.pairwise_cons.2 ⟨fun z hz => ?_, ih⟩
    rcases List.mem_cons.1 hz with rfl | hz
    · exact hxy
    · exact lss_trans _ _ _ hxy ((List.pairwise_cons.1 ih).1 z hz)
theorem adj_rise {l : List Nm} (h : rise l) : ∀ i a b, l[i]? = some a → l[i + 1]? = some b → lss a b = true := by
  intro i a b ha hb
  obtain ⟨hi, ei⟩ := List.getElem?_eq_some_iff.1 ha
  obtain ⟨hj, ej⟩ := List.getElem?_eq_some_iff.1 hb
  have := List.pairwise_iff_getElem.1 h i (i + 1) hi hj (by omega)
  rw [ei, ej] at this
  exact this

/-- A node. -/
structure Nd where
  kind : Int
  mode : Int
  uid : Int
  gid : Int
  data : List UInt8
  ents : List En
  target : Nm
def Nd.zero : Nd := ⟨0, 0, 0, 0, [], [], []⟩
/-- A name that no entry may have, however long. -/
def badN (n : Nm) : Bool := n == [] || n == [46] || n == [46, 46] || n.contains 47 || n.contains 0
/-- May an entry have a name? -/
def nok (n : Nm) : Bool := !badN n && decide (n.length ≤ 12)
/-- May a text be a path? -/
def fok (n : Nm) : Bool := decide (0 < n.length ∧ n.length ≤ 64) && !n.contains 0
def entsP (l : List En) : Prop := (∀ e ∈ l, nok e.1 = true ∧ 1 ≤ e.2) ∧ rise (nmE l) ∧ l.length ≤ 8
def headP (n : Nd) : Prop := (0 ≤ n.mode ∧ n.mode ≤ 4095) ∧ (0 ≤ n.uid ∧ n.uid ≤ 65535) ∧ (0 ≤ n.gid ∧ n.gid ≤ 65535)
/-- May a node be? -/
def rightP (n : Nd) : Prop := headP n ∧ (n.kind = 1 ∧ n.ents = [] ∧ n.target = [] ∧ n.data.length ≤ 48 ∨ n.kind = 2 ∧ n.data = [] ∧ n.target = [] ∧ entsP n.ents ∨ n.kind = 3 ∧ n.data = [] ∧ n.ents = [] ∧ n.mode = 511 ∧ fok n.target = true)
def sizM (n : Nd) : Int := if n.kind = 1 then n.data.length else if n.kind = 2 then n.ents.length else if n.kind = 3 then n.target.length else 0
theorem siz_dir {n : Nd} (hk : n.kind = 2) : sizM n = n.ents.length := by
  unfold sizM
  rw [if_neg (show ¬ n.kind = 1 by omega), if_pos hk]
/-- A node with one entry more: the error, and what is left. -/
def withE (n : Nd) (name : Nm) (id : Int) : Int :=
  if n.kind ≠ 2 then 20 else if id < 1 ∨ badN name = true then 22 else if 12 < name.length then 36 else if name ∈ nmE n.ents then 17 else if 8 ≤ n.ents.length then 28 else 0
def withM (n : Nd) (name : Nm) (id : Int) : Nd := if withE n name id = 0 then { n with ents := ins (name, id) n.ents } else Nd.zero
def outE (n : Nd) (name : Nm) : Int := if n.kind ≠ 2 then 20 else if name ∈ nmE n.ents then 0 else 2
def outM (n : Nd) (name : Nm) : Nd := if outE n name = 0 then { n with ents := del n.ents name } else Nd.zero
theorem withE_zero {n : Nd} {name : Nm} {id : Int} : withE n name id = 0 ↔ n.kind = 2 ∧ 1 ≤ id ∧ nok name = true ∧ ¬ name ∈ nmE n.ents ∧ n.ents.length < 8 := by
  unfold withE nok
  by_cases h1 : n.kind ≠ 2
  · rw [if_pos h1]
    constructor
    · intro h; omega
    · intro h; exact absurd h.1 h1
  · rw [if_neg h1]
    have h1' : n.kind = 2 := by omega
    by_cases h2 : id < 1 ∨ badN name = true
    · rw [if_pos h2]
      constructor
      · intro h; omega
      · rintro ⟨_, h3, h4, _⟩
        rcases h2 with h2 | h2
        · omega
        · rw [h2] at h4; cases h4
    · rw [if_neg h2]
      have h2a : ¬ id < 1 := fun e => h2 (.inl e)
      have h2b : badN name = false := by cases hb : badN name with
        | false => rfl
        | true => exact absurd (.inr hb) h2
      by_cases h3 : 12 < name.length
      · rw [if_pos h3]
        constructor
        · intro h; omega
        · rintro ⟨_, _, h4, _⟩
          rw [h2b, decide_eq_false (by omega)] at h4
          cases h4
      · rw [if_neg h3]
        by_cases h4 : name ∈ nmE n.ents
        · rw [if_pos h4]
          constructor
          · intro h; omega
          · rintro ⟨_, _, _, h5, _⟩
            exact absurd h4 h5
        · rw [if_neg h4]
          by_cases h5 : 8 ≤ n.ents.length
          · rw [if_pos h5]
            constructor
            · intro h; omega
            · rintro ⟨_, _, _, _, h6⟩; omega
          · rw [if_neg h5]
            exact ⟨fun _ => ⟨h1', by omega, by rw [h2b, decide_eq_true (by omega)]; rfl, h4, by omega⟩, fun _ => rfl⟩
theorem right_dir {n : Nd} (h : rightP n) (hk : n.kind = 2) : headP n ∧ n.data = [] ∧ n.target = [] ∧ entsP n.ents := by
  refine ⟨h.1, ?_⟩
  rcases h.2 with ⟨e, _⟩ | ⟨_, h2⟩ | ⟨e, _⟩
  · omega
  · exact h2
  · omega
theorem ents_ins {l : List En} {name : Nm} {id : Int} (h : entsP l) (h1 : 1 ≤ id) (h2 : nok name = true) (h3 : ¬ name ∈ nmE l) (h4 : l.length < 8) : entsP (ins (name, id) l) := by
  refine ⟨fun e he => ?_, ?_, by rw [len_ins]; omega⟩
  · rcases (mem_ins _ _ _).1 he with rfl | he
    · exact ⟨h2, h1⟩
    · exact h.1 e he
  · rw [nmE_ins]
    exact rise_insN h.2.1 h3
theorem ents_del {l : List En} (name : Nm) (h : entsP l) : entsP (del l name) := by
  refine ⟨fun e he => h.1 e ((del_sub l name).subset he), del_rise name h.2.1, ?_⟩
  have := (del_sub l name).length_le
  have := h.2.2
  omega
/-- What is right stays so, with one entry more. -/
theorem right_with {n : Nd} {name : Nm} {id : Int} (h : rightP n) (he : withE n name id = 0) : rightP (withM n name id) ∧ outE (withM n name id) name = 0 ∧ outM (withM n name id) name = n ∧ fnd (withM n name id).ents name = id ∧ sizM (withM n name id) = sizM n + 1 := by
  obtain ⟨hk, h1, h2, h3, h4⟩ := withE_zero.1 he
  obtain ⟨hh, hd, ht, hen⟩ := right_dir h hk
  have hM : withM n name id = { n with ents := ins (name, id) n.ents } := if_pos he
  have ho : outE { n with ents := ins (name, id) n.ents } name = 0 := by
    unfold outE
    rw [if_neg (fun e => e hk), if_pos (by show name ∈ nmE (ins (name, id) n.ents); rw [nmE_ins, mem_insN]; exact .inl rfl)]
  rw [hM]
  refine ⟨⟨hh, .inr (.inl ⟨hk, hd, ht, ents_ins hen h1 h2 h3 h4⟩)⟩, ho, ?_, fnd_ins h3, ?_⟩
  · unfold outM
    rw [if_pos ho]
    show ({ n with ents := del (ins (name, id) n.ents) name } : Nd) = n
    rw [del_ins h3]
  · rw [siz_dir (n := { n with ents := ins (name, id) n.ents }) hk, siz_dir hk]
    show ((ins (name, id) n.ents).length : Int) = _
    rw [len_ins]
    rfl
/-- What is right stays so, with one entry less. -/
theorem right_out {n : Nd} {name : Nm} (h : rightP n) (he : outE n name = 0) : rightP (outM n name) ∧ fnd (outM n name).ents name = 0 ∧ sizM (outM n name) = sizM n - 1 := by
  have hk : n.kind = 2 := by
    unfold outE at he
    by_cases hk : n.kind = 2
    · exact hk
    · rw [if_pos hk] at he; omega
  have hm : name ∈ nmE n.ents := by
    unfold outE at he
    rw [if_neg (fun e => e hk)] at he
    by_cases hm : name ∈ nmE n.ents
    · exact hm
    · rw [if_neg hm] at he; omega
  obtain ⟨hh, hd, ht, hen⟩ := right_dir h hk
  have hM : outM n name = { n with ents := del n.ents name } := if_pos he
  rw [hM]
  refine ⟨⟨hh, .inr (.inl ⟨hk, hd, ht, ents_del name hen⟩)⟩, fnd_none (del_gone hen.2.1), ?_⟩
  rw [siz_dir (n := { n with ents := del n.ents name }) hk, siz_dir hk]
  show ((del n.ents name).length : Int) = _
  have := del_len hm
  omega
/-- In what is right each name is found, and no other one. -/
theorem right_finds {n : Nd} (h : rightP n) (hk : n.kind = 2) : srt (nmE n.ents) = nmE n.ents ∧ (∀ (i : Nat) (e : En), n.ents[i]? = some e → fnd n.ents e.1 = e.2 ∧ (nmE n.ents)[i]? = some e.1) ∧ (∀ name, (0 < fnd n.ents name) ↔ name ∈ nmE n.ents) := by
  obtain ⟨_, _, _, hen⟩ := right_dir h hk
  refine ⟨srt_same (rise_upw hen.2.1), fun i e he => ⟨fnd_at hen.2.1 (List.mem_of_getElem? he), by rw [nmE, List.getElem?_map, he]; rfl⟩, fun name => ?_⟩
  constructor
  · intro h0
    by_cases hm : name ∈ nmE n.ents
    · exact hm
    · rw [fnd_none hm] at h0; omega
  · intro hm
    obtain ⟨e, h1, _, h3⟩ := fnd_some hm
    have := (hen.1 e h1).2
    omega
theorem right_other {n : Nd} (h : rightP n) (hk : ¬ n.kind = 2) : n.ents = [] := by
  rcases h.2 with ⟨_, h2, _⟩ | ⟨e, _⟩ | ⟨_, _, h2, _⟩
  · exact h2
  · exact absurd e hk
  · exact h2
end Go.Proofs.Ytmapkmjhpebcbaa
