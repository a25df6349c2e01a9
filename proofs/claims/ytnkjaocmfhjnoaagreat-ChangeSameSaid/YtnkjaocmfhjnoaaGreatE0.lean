/-
  Texts, names, nodes and tables as plain mathematics; how bytes, texts, entries and nodes lie in memory; names of paths. The conditions are said at each.
-/
import Derived.Test.YtnkjaocmfhjnoaaGreatChecked
import Derived.WalkKit
import Derived.Below
import Derived.Lib.Hide
import Derived.LoopN
import Derived.Lib.Bytealg
import Derived.Lib.IndexBytes
import Derived.Lib.OthersKept
import Derived.Laws.OwnMore
import Derived.Deep.AppendLies
import Derived.Deep.LoopGhost
import Derived.OwnWalk
import Derived.Laws.AppendOwnNone
import Derived.Deep.Draws
import Derived.Deep.QuietTactic
import Derived.BigQuiet
import Derived.Laws.CopyOwn
import Derived.Laws.MakeOwn
import Derived.Lib.AppendZerosOnto
import Derived.Lib.SliceRun
import Derived.Laws.NewBlocks
namespace Go.Proofs.YtnkjaocmfhjnoaaGreat
open Go Go.RowKit
set_option maxRecDepth 100000

theorem ret_int {k : IntKind} {a b : Int} (h : a = b) : Ending.returned (.int k a) = .returned (.int k b) := by rw [h]
theorem ret_bool {a b : Bool} (h : a = b) : Ending.returned (.bool a) = .returned (.bool b) := by rw [h]
theorem bc {W w1 : World} {a : Addr} {v : Value} (hb : Below W.heap.size W w1) (h : W.cell? a = some v) : w1.cell? a = some v := (hb.cell (World.block_lt_of_cell? _ _ h)).trans h
theorem bt {w W w1 : World} (hb : Below W.heap.size W w1) (h : Below w.heap.size w W) : Below w.heap.size w w1 := h.trans (hb.mono h.size)
end Go.Proofs.YtnkjaocmfhjnoaaGreat
namespace Go.Proofs.YtnkjaocmfhjnoaaGreat
open Go Go.RowKit
set_option maxRecDepth 100000

abbrev Nm := List UInt8
abbrev En := Nm × Int
abbrev lss : Nm → Nm → Bool := Op.bytesLess
theorem lss_nil (a : Nm) : lss a [] = false := by cases a <;> rfl
theorem lss_cons (a b : UInt8) (x y : Nm) : lss (a :: x) (b :: y) = if a = b then lss x y else decide (a < b) := by
  show (decide (a < b) || (a == b && Op.bytesLess x y)) = _
  by_cases h : a = b
  · subst h
    have : ¬ a < a := UInt8.lt_irrefl a
    simp [this]
  · simp [h]
theorem lss_irrefl : ∀ a : Nm, lss a a = false
  | [] => rfl
  | c :: a => by rw [lss_cons, if_pos rfl]; exact lss_irrefl a
theorem lss_tri : ∀ a b : Nm, lss a b = false → lss b a = false → a = b
  | [], [], _, _ => rfl
  | [], _ :: _, h, _ => by cases h
  | _ :: _, [], _, h => by cases h
  | a :: x, b :: y, h1, h2 => by
    rw [lss_cons] at h1 h2
    by_cases h : a = b
    · subst h
      rw [if_pos rfl] at h1 h2
      rw [lss_tri x y h1 h2]
    · rw [if_neg h] at h1
      rw [if_neg (fun e => h e.symm)] at h2
      exfalso
      have h3 : ¬ a < b := by simpa using h1
      have h4 : ¬ b < a := by simpa using h2
      exact h (UInt8.le_antisymm (UInt8.not_lt.1 h4) (UInt8.not_lt.1 h3))
theorem lss_trans : ∀ a b c : Nm, lss a b = true → lss b c = true → lss a c = true
  | _, [], _, h, _ => by rw [lss_nil] at h; cases h
  | _, _ :: _, [], _, h => by rw [lss_nil] at h; cases h
  | [], _ :: _, _ :: _, _, _ => rfl
  | a :: x, b :: y, c :: z, h1, h2 => by
    rw [lss_cons] at h1 h2 ⊢
    by_cases hab : a = b
    · subst hab
      rw [if_pos rfl] at h1
      by_cases hac : a = c
      · subst hac
        rw [if_pos rfl] at h2 ⊢
        exact lss_trans x y z h1 h2
      · rw [if_neg hac] at h2 ⊢
        exact h2
    · rw [if_neg hab] at h1
      have h3 : a < b := by simpa using h1
      by_cases hbc : b = c
      · subst hbc
        rw [if_neg hab]
        exact h1
      · rw [if_neg hbc] at h2
        have h4 : b < c := by simpa using h2
        have h5 : a < c := UInt8.lt_trans h3 h4
        have h6 : ¬ a = c := fun e => UInt8.lt_irrefl c (by rw [e] at h5; exact h5)
        rw [if_neg h6]
        simpa using h5
theorem lss_asymm {a b : Nm} (h : lss a b = true) : lss b a = false := by
  cases hb : lss b a with
  | false => rfl
  | true =>
    have := lss_trans a b a h hb
    rw [lss_irrefl] at this
    cases this
theorem lss_ne {a b : Nm} (h : lss a b = true) : ¬ a = b := by
  intro e
  rw [e, lss_irrefl] at h
  cases h
theorem lss_of {a b : Nm} (h : lss a b = false) (hne : ¬ a = b) : lss b a = true := by
  cases hb : lss b a with
  | true => rfl
  | false => exact absurd (lss_tri a b h hb) hne
def rise (l : List Nm) : Prop := l.Pairwise fun a b => lss a b = true
theorem rise_nodup {l : List Nm} (h : rise l) : l.Nodup := List.Pairwise.imp (fun h => lss_ne h) h
def insN (x : Nm) : List Nm → List Nm
  | [] => [x]
  | y :: l => if lss x y = true then x :: y :: l else y :: insN x l
def ins (x : En) : List En → List En
  | [] => [x]
  | y :: l => if lss x.1 y.1 = true then x :: y :: l else y :: ins x l
theorem ins_names (x : En) : ∀ l : List En, (ins x l).map Prod.fst = insN x.1 (l.map Prod.fst)
  | [] => rfl
  | y :: l => by
    rw [ins, List.map_cons, insN]
    split
    · rfl
    · rw [List.map_cons, ins_names x l]
theorem mem_insN (x y : Nm) : ∀ l : List Nm, y ∈ insN x l ↔ y = x ∨ y ∈ l
  | [] => by simp [insN]
  | z :: l => by
    rw [insN]
    split
    · simp
    · rw [List.mem_cons, mem_insN x y l, List.mem_cons]
      constructor
      · rintro (h | h | h)
        · exact .inr (.inl h)
        · exact .inl h
        · exact .inr (.inr h)
      · rintro (h | h | h)
        · exact .inr (.inl h)
        · exact .inl h
        · exact .inr (.inr h)
theorem len_insN (x : Nm) : ∀ l : List Nm, (insN x l).length = l.length + 1
  | [] => rfl
  | y :: l => by
    rw [insN]
    split
    · rfl
    · rw [List.length_cons, len_insN x l, List.length_cons]
theorem len_ins (x : En) (l : List En) : (ins x l).length = l.length + 1 := by
  have h := congrArg List.length (ins_names x l)
  rw [List.length_map, len_insN, List.length_map] at h
  exact h
theorem mem_ins (x y : En) : ∀ l : List En, y ∈ ins x l ↔ y = x ∨ y ∈ l
  | [] => by simp [ins]
  | z :: l => by
    rw [ins]
    split
    · simp
    · rw [List.mem_cons, mem_ins x y l, List.mem_cons]
      constructor
      · rintro (h | h | h)
        · exact .inr (.inl h)
        · exact .inl h
        · exact .inr (.inr h)
      · rintro (h | h | h)
        · exact .inr (.inl h)
        · exact .inl h
        · exact .inr (.inr h)
theorem rise_insN {x : Nm} : ∀ {l : List Nm}, rise l → ¬ x ∈ l → rise (insN x l)
  | [], _, _ => List.pairwise_singleton _ _
  | y :: l, h, hx => by
    obtain ⟨h1, h2⟩ := List.pairwise_cons.1 h
    rw [insN]
    split
    · rename_i hl
      refine List.pairwise_cons.2 ⟨fun z hz => ?_, h⟩
      rcases List.mem_cons.1 hz with rfl | hz
      · exact hl
      · exact lss_trans _ _ _ hl (h1 z hz)
    · rename_i hl
      refine List.pairwise_cons.2 ⟨fun z hz => ?_, rise_insN h2 (fun e => hx (List.mem_cons_of_mem _ e))⟩
      rcases (mem_insN x z l).1 hz with rfl | hz
      · exact lss_of (by simpa using hl) (fun e => hx (by rw [e]; exact List.mem_cons_self ..))
      · exact h1 z hz
end Go.Proofs.YtnkjaocmfhjnoaaGreat
namespace Go.Proofs.YtnkjaocmfhjnoaaGreat
open Go Go.RowKit
set_option maxRecDepth 100000

def nmE (l : List En) : List Nm := l.map Prod.fst
def fnd : List En → Nm → Int
  | [], _ => 0
  | e :: l, n => if e.1 = n then e.2 else fnd l n
def del : List En → Nm → List En
  | [], _ => []
  | e :: l, n => if e.1 = n then l else e :: del l n
theorem mem_nmE {l : List En} {e : En} (h : e ∈ l) : e.1 ∈ nmE l := List.mem_map.2 ⟨e, h, rfl⟩
theorem fnd_none : ∀ {l : List En} {n : Nm}, ¬ n ∈ nmE l → fnd l n = 0
  | [], _, _ => rfl
  | e :: l, n, h => by
    rw [fnd, if_neg (fun q => h (by rw [← q]; exact List.mem_cons_self ..))]
    exact fnd_none (fun q => h (List.mem_cons_of_mem _ q))
theorem fnd_some : ∀ {l : List En} {n : Nm}, n ∈ nmE l → ∃ e ∈ l, e.1 = n ∧ fnd l n = e.2
  | [], _, h => by cases h
  | e :: l, n, h => by
    by_cases q : e.1 = n
    · exact ⟨e, List.mem_cons_self .., q, by rw [fnd, if_pos q]⟩
    · have h2 : n ∈ nmE l := by
        rcases List.mem_cons.1 h with h | h
        · exact absurd h.symm q
        · exact h
      obtain ⟨f, h3, h4, h5⟩ := fnd_some h2
      exact ⟨f, List.mem_cons_of_mem _ h3, h4, by rw [fnd, if_neg q]; exact h5⟩
theorem fnd_at : ∀ {l : List En} {e : En}, rise (nmE l) → e ∈ l → fnd l e.1 = e.2
  | [], _, _, h => by cases h
  | f :: l, e, hr, h => by
    obtain ⟨h1, h2⟩ := List.pairwise_cons.1 hr
    rcases List.mem_cons.1 h with rfl | h
    · rw [fnd, if_pos rfl]
    · rw [fnd, if_neg (lss_ne (h1 _ (mem_nmE h)))]
      exact fnd_at h2 h
theorem del_sub : ∀ (l : List En) (n : Nm), (del l n).Sublist l
  | [], _ => List.Sublist.refl _
  | e :: l, n => by
    rw [del]
    split
    · exact List.sublist_cons_self ..
    · exact (del_sub l n).cons_cons e
theorem del_rise {l : List En} (n : Nm) (h : rise (nmE l)) : rise (nmE (del l n)) := List.Pairwise.sublist ((del_sub l n).map _) h
theorem del_len : ∀ {l : List En} {n : Nm}, n ∈ nmE l → (del l n).length + 1 = l.length
  | [], _, h => by cases h
  | e :: l, n, h => by
    rw [del]
    split
    · rfl
    · rename_i q
      have h2 : n ∈ nmE l := by
        rcases List.mem_cons.1 h with h | h
        · exact absurd h.symm q
        · exact h
      rw [List.length_cons, List.length_cons, del_len h2]
theorem del_gone : ∀ {l : List En} {n : Nm}, rise (nmE l) → ¬ n ∈ nmE (del l n)
  | [], _, _ => by intro h; cases h
  | e :: l, n, hr => by
    obtain ⟨h1, h2⟩ := List.pairwise_cons.1 hr
    rw [del]
    split
    · rename_i q
      intro h
      exact lss_ne (h1 n h) q
    · rename_i q
      intro h
      rcases List.mem_cons.1 h with h | h
      · exact q h.symm
      · exact del_gone h2 h
theorem del_ins {n : Nm} {i : Int} : ∀ {l : List En}, ¬ n ∈ nmE l → del (ins (n, i) l) n = l
  | [], _ => by rw [ins, del, if_pos rfl]
  | e :: l, h => by
    rw [ins]
    split
    · rw [del, if_pos rfl]
    · rw [del, if_neg (fun q => h (by rw [← q]; exact List.mem_cons_self ..)), del_ins (fun q => h (List.mem_cons_of_mem _ q))]
theorem fnd_ins {n : Nm} {i : Int} : ∀ {l : List En}, ¬ n ∈ nmE l → fnd (ins (n, i) l) n = i
  | [], _ => by rw [ins, fnd, if_pos rfl]
  | e :: l, h => by
    rw [ins]
    split
    · rw [fnd, if_pos rfl]
    · rw [fnd, if_neg (fun q => h (by rw [← q]; exact List.mem_cons_self ..)), fnd_ins (fun q => h (List.mem_cons_of_mem _ q))]
theorem nmE_ins (x : En) (l : List En) : nmE (ins x l) = insN x.1 (nmE l) := ins_names x l
theorem rise_adj : ∀ {l : List Nm}, (∀ i a b, l[i]? = some a → l[i + 1]? = some b → lss a b = true) → rise l
  | [], _ => List.Pairwise.nil
  | [x], _ => List.pairwise_singleton _ _
  | x :: y :: l, h => by
    have ih : rise (y :: l) := rise_adj (fun i a b ha hb => h (i + 1) a b (by simpa using ha) (by simpa using hb))
    have hxy : lss x y = true := h 0 x y rfl rfl
    refine List.pairwise_cons.2 ⟨fun z hz => ?_, ih⟩
    rcases List.mem_cons.1 hz with rfl | hz
    · exact hxy
    · exact lss_trans _ _ _ hxy ((List.pairwise_cons.1 ih).1 z hz)
theorem adj_rise {l : List Nm} (h : rise l) : ∀ i a b, l[i]? = some a → l[i + 1]? = some b → lss a b = true := by
  intro i a b ha hb
  obtain ⟨hi, ei⟩ := List.getElem?_eq_some_iff.1 ha
  obtain ⟨hj, ej⟩ := List.getElem?_eq_some_iff.1 hb
  have := List.pairwise_iff_getElem.1 h i (i + 1) hi hj (by omega)
  rw [ei, ej] at this
  exact this

structure Nd where
  kind : Int
  mode : Int
  uid : Int
  gid : Int
  data : List UInt8
  ents : List En
  target : Nm
def Nd.zero : Nd := ⟨0, 0, 0, 0, [], [], []⟩
def badN (n : Nm) : Bool := n == [] || n == [46] || n == [46, 46] || n.contains 47 || n.contains 0
def nok (n : Nm) : Bool := !badN n && decide (n.length ≤ 12)
def fok (n : Nm) : Bool := decide (0 < n.length ∧ n.length ≤ 64) && !n.contains 0
def entsP (l : List En) : Prop := (∀ e ∈ l, nok e.1 = true ∧ 1 ≤ e.2) ∧ rise (nmE l) ∧ l.length ≤ 8
def headP (n : Nd) : Prop := (0 ≤ n.mode ∧ n.mode ≤ 4095) ∧ (0 ≤ n.uid ∧ n.uid ≤ 65535) ∧ (0 ≤ n.gid ∧ n.gid ≤ 65535)
def rightP (n : Nd) : Prop := headP n ∧ (n.kind = 1 ∧ n.ents = [] ∧ n.target = [] ∧ n.data.length ≤ 48 ∨ n.kind = 2 ∧ n.data = [] ∧ n.target = [] ∧ entsP n.ents ∨ n.kind = 3 ∧ n.data = [] ∧ n.ents = [] ∧ n.mode = 511 ∧ fok n.target = true)
def sizM (n : Nd) : Int := if n.kind = 1 then n.data.length else if n.kind = 2 then n.ents.length else if n.kind = 3 then n.target.length else 0
theorem siz_dir {n : Nd} (hk : n.kind = 2) : sizM n = n.ents.length := by
  unfold sizM
  rw [if_neg (show ¬ n.kind = 1 by omega), if_pos hk]
def withE (n : Nd) (name : Nm) (id : Int) : Int :=
  if n.kind ≠ 2 then 20 else if id < 1 ∨ badN name = true then 22 else if 12 < name.length then 36 else if name ∈ nmE n.ents then 17 else if 8 ≤ n.ents.length then 28 else 0
def withM (n : Nd) (name : Nm) (id : Int) : Nd := if withE n name id = 0 then { n with ents := ins (name, id) n.ents } else Nd.zero
def outE (n : Nd) (name : Nm) : Int := if n.kind ≠ 2 then 20 else if name ∈ nmE n.ents then 0 else 2
def outM (n : Nd) (name : Nm) : Nd := if outE n name = 0 then { n with ents := del n.ents name } else Nd.zero
theorem withE_zero {n : Nd} {name : Nm} {id : Int} : withE n name id = 0 ↔ n.kind = 2 ∧ 1 ≤ id ∧ nok name = true ∧ ¬ name ∈ nmE n.ents ∧ n.ents.length < 8 := by
  unfold withE nok
  by_cases h1 : n.kind ≠ 2
  · rw [if_pos h1]
    constructor
    · intro h; omega
    · intro h; exact absurd h.1 h1
  · rw [if_neg h1]
    have h1' : n.kind = 2 := by omega
    by_cases h2 : id < 1 ∨ badN name = true
    · rw [if_pos h2]
      constructor
      · intro h; omega
      · rintro ⟨_, h3, h4, _⟩
        rcases h2 with h2 | h2
        · omega
        · rw [h2] at h4; cases h4
    · rw [if_neg h2]
      have h2a : ¬ id < 1 := fun e => h2 (.inl e)
      have h2b : badN name = false := by cases hb : badN name with
        | false => rfl
        | true => exact absurd (.inr hb) h2
      by_cases h3 : 12 < name.length
      · rw [if_pos h3]
        constructor
        · intro h; omega
        · rintro ⟨_, _, h4, _⟩
          rw [h2b, decide_eq_false (by omega)] at h4
          cases h4
      · rw [if_neg h3]
        by_cases h4 : name ∈ nmE n.ents
        · rw [if_pos h4]
          constructor
          · intro h; omega
          · rintro ⟨_, _, _, h5, _⟩
            exact absurd h4 h5
        · rw [if_neg h4]
          by_cases h5 : 8 ≤ n.ents.length
          · rw [if_pos h5]
            constructor
            · intro h; omega
            · rintro ⟨_, _, _, _, h6⟩; omega
          · rw [if_neg h5]
            exact ⟨fun _ => ⟨h1', by omega, by rw [h2b, decide_eq_true (by omega)]; rfl, h4, by omega⟩, fun _ => rfl⟩
theorem right_dir {n : Nd} (h : rightP n) (hk : n.kind = 2) : headP n ∧ n.data = [] ∧ n.target = [] ∧ entsP n.ents := by
  refine ⟨h.1, ?_⟩
  rcases h.2 with ⟨e, _⟩ | ⟨_, h2⟩ | ⟨e, _⟩
  · omega
  · exact h2
  · omega
theorem ents_ins {l : List En} {name : Nm} {id : Int} (h : entsP l) (h1 : 1 ≤ id) (h2 : nok name = true) (h3 : ¬ name ∈ nmE l) (h4 : l.length < 8) : entsP (ins (name, id) l) := by
  refine ⟨fun e he => ?_, ?_, by rw [len_ins]; omega⟩
  · rcases (mem_ins _ _ _).1 he with rfl | he
    · exact ⟨h2, h1⟩
    · exact h.1 e he
  · rw [nmE_ins]
    exact rise_insN h.2.1 h3
theorem ents_del {l : List En} (name : Nm) (h : entsP l) : entsP (del l name) := by
  refine ⟨fun e he => h.1 e ((del_sub l name).subset he), del_rise name h.2.1, ?_⟩
  have := (del_sub l name).length_le
  have := h.2.2
  omega
theorem right_with {n : Nd} {name : Nm} {id : Int} (h : rightP n) (he : withE n name id = 0) : rightP (withM n name id) ∧ outE (withM n name id) name = 0 ∧ outM (withM n name id) name = n ∧ fnd (withM n name id).ents name = id ∧ sizM (withM n name id) = sizM n + 1 := by
  obtain ⟨hk, h1, h2, h3, h4⟩ := withE_zero.1 he
  obtain ⟨hh, hd, ht, hen⟩ := right_dir h hk
  have hM : withM n name id = { n with ents := ins (name, id) n.ents } := if_pos he
  have ho : outE { n with ents := ins (name, id) n.ents } name = 0 := by
    unfold outE
    rw [if_neg (fun e => e hk), if_pos (by show name ∈ nmE (ins (name, id) n.ents); rw [nmE_ins, mem_insN]; exact .inl rfl)]
  rw [hM]
  refine ⟨⟨hh, .inr (.inl ⟨hk, hd, ht, ents_ins hen h1 h2 h3 h4⟩)⟩, ho, ?_, fnd_ins h3, ?_⟩
  · unfold outM
    rw [if_pos ho]
    show ({ n with ents := del (ins (name, id) n.ents) name } : Nd) = n
    rw [del_ins h3]
  · rw [siz_dir (n := { n with ents := ins (name, id) n.ents }) hk, siz_dir hk]
    show ((ins (name, id) n.ents).length : Int) = _
    rw [len_ins]
    rfl
theorem right_out {n : Nd} {name : Nm} (h : rightP n) (he : outE n name = 0) : rightP (outM n name) ∧ fnd (outM n name).ents name = 0 ∧ sizM (outM n name) = sizM n - 1 := by
  have hk : n.kind = 2 := by
    unfold outE at he
    by_cases hk : n.kind = 2
    · exact hk
    · rw [if_pos hk] at he; omega
  have hm : name ∈ nmE n.ents := by
    unfold outE at he
    rw [if_neg (fun e => e hk)] at he
    by_cases hm : name ∈ nmE n.ents
    · exact hm
    · rw [if_neg hm] at he; omega
  obtain ⟨hh, hd, ht, hen⟩ := right_dir h hk
  have hM : outM n name = { n with ents := del n.ents name } := if_pos he
  rw [hM]
  refine ⟨⟨hh, .inr (.inl ⟨hk, hd, ht, ents_del name hen⟩)⟩, fnd_none (del_gone hen.2.1), ?_⟩
  rw [siz_dir (n := { n with ents := del n.ents name }) hk, siz_dir hk]
  show ((del n.ents name).length : Int) = _
  have := del_len hm
  omega
theorem right_other {n : Nd} (h : rightP n) (hk : ¬ n.kind = 2) : n.ents = [] := by
  rcases h.2 with ⟨_, h2, _⟩ | ⟨e, _⟩ | ⟨_, _, h2, _⟩
  · exact h2
  · exact absurd e hk
  · exact h2
end Go.Proofs.YtnkjaocmfhjnoaaGreat
namespace Go.Proofs.YtnkjaocmfhjnoaaGreat
open Go Go.RowKit
set_option maxRecDepth 100000

def tget (t : List Nd) (i : Int) : Nd := if 1 ≤ i ∧ i ≤ t.length then t.getD (i - 1).toNat Nd.zero else Nd.zero
def tis (t : List Nd) (i : Int) : Bool := decide ((tget t i).kind ≠ 0)
def cntE (l : List En) (i : Int) : Nat := l.countP (fun e => decide (e.2 = i))
def linkT (t : List Nd) (i : Int) : Nat := (t.map (fun n => cntE n.ents i)).sum
def parT : List Nd → Nat → Int → Nat
  | [], _, _ => 0
  | n :: t, d, i => if cntE n.ents i = 0 then parT t (d + 1) i else d + 1
def usedT (t : List Nd) : Nat := t.countP (fun n => decide (n.kind ≠ 0))
def freeT : List Nd → Nat → Nat
  | [], _ => 0
  | n :: t, d => if n.kind = 0 then d + 1 else freeT t (d + 1)
def okT (t : List Nd) : Prop := ∀ n ∈ t, n = Nd.zero ∨ rightP n

theorem right_kind {n : Nd} (h : rightP n) : n.kind ≠ 0 := by
  rcases h.2 with h | h | h <;> omega
theorem ok_new (r : Nat) : okT (List.replicate r Nd.zero) := fun _ h => Or.inl (List.eq_of_mem_replicate h)
theorem ok_set {t : List Nd} (h : okT t) (k : Nat) {n : Nd} (hn : n = Nd.zero ∨ rightP n) : okT (t.set k n) := by
  intro m hm
  rcases List.mem_or_eq_of_mem_set hm with q | q
  · exact h m q
  · rw [q]; exact hn
theorem tget_at {t : List Nd} {k : Nat} (h : k < t.length) : tget t (k + 1) = t[k] := by
  unfold tget
  rw [if_pos ⟨by omega, by omega⟩, show ((k : Int) + 1 - 1).toNat = k by omega, List.getD_eq_getElem?_getD, List.getElem?_eq_getElem h]
  rfl
theorem tget_out {t : List Nd} {i : Int} (h : ¬ (1 ≤ i ∧ i ≤ t.length)) : tget t i = Nd.zero := if_neg h
theorem ok_tget {t : List Nd} (h : okT t) (i : Int) : tget t i = Nd.zero ∨ rightP (tget t i) := by
  by_cases q : 1 ≤ i ∧ i ≤ t.length
  · have e : i = ((i - 1).toNat : Int) + 1 := by omega
    rw [e, tget_at (by omega)]
    exact h _ (List.getElem_mem _)
  · exact Or.inl (tget_out q)
theorem tis_right {t : List Nd} (h : okT t) {i : Int} (hi : tis t i = true) : rightP (tget t i) := by
  rcases ok_tget h i with q | q
  · have hi := of_decide_eq_true hi
    rw [q] at hi
    exact absurd rfl hi
  · exact q
theorem tis_not {t : List Nd} (h : okT t) {i : Int} (hi : tis t i = false) : tget t i = Nd.zero := by
  rcases ok_tget h i with q | q
  · exact q
  · exact absurd (right_kind q) (of_decide_eq_false hi)
theorem ok_ents {t : List Nd} (h : okT t) {n : Nd} (hn : n ∈ t) (hk : n.kind ≠ 2) : n.ents = [] := by
  rcases h n hn with q | q
  · rw [q]; rfl
  · rcases q.2 with q | q | q
    · exact q.2.1
    · exact absurd q.1 hk
    · exact q.2.2.1
theorem par_zero {i : Int} : ∀ (t : List Nd) (d : Nat), parT t d i = 0 ↔ linkT t i = 0
  | [], _ => by simp [parT, linkT]
  | n :: t, d => by
    have ih := par_zero (i := i) t (d + 1)
    unfold linkT at ih ⊢
    rw [List.map_cons, List.sum_cons, parT]
    split
    · rename_i q
      rw [ih, q, Nat.zero_add]
    · rename_i q
      constructor
      · intro h; omega
      · intro h; omega
theorem par_le {i : Int} : ∀ (t : List Nd) (d : Nat), parT t d i ≤ d + t.length
  | [], _ => Nat.zero_le _
  | n :: t, d => by
    have ih := par_le (i := i) t (d + 1)
    rw [parT, List.length_cons]
    split <;> omega

def entT (t : List Nd) : Nat := (t.map (fun n => n.ents.length)).sum
theorem free_none : ∀ {t : List Nd} {d : Nat}, freeT t d = 0 ↔ usedT t = t.length
  | [], _ => by simp [freeT, usedT]
  | n :: t, d => by
    have ih := free_none (t := t) (d := d + 1)
    have hl : usedT t ≤ t.length := List.countP_le_length
    have hc : usedT (n :: t) = usedT t + if decide (n.kind ≠ 0) = true then 1 else 0 := List.countP_cons ..
    rw [freeT, hc, List.length_cons]
    by_cases q : n.kind = 0
    · rw [if_pos q, if_neg (by simp [q])]; omega
    · rw [if_neg q, if_pos (by simp [q]), ih]; omega
theorem free_some : ∀ {t : List Nd} {d : Nat}, freeT t d ≠ 0 → ∃ k, ∃ h : k < t.length, freeT t d = d + k + 1 ∧ (t[k]).kind = 0 ∧ ∀ j, ∀ hj : j < k, (t[j]'(by omega)).kind ≠ 0
  | [], _, h => absurd rfl h
  | n :: t, d, h => by
    rw [freeT] at h ⊢
    by_cases q : n.kind = 0
    · rw [if_pos q]
      exact ⟨0, Nat.succ_pos _, by omega, q, fun j hj => absurd hj (Nat.not_lt_zero j)⟩
    · rw [if_neg q] at h ⊢
      obtain ⟨k, hk, h1, h2, h3⟩ := free_some h
      refine ⟨k + 1, by rw [List.length_cons]; omega, by omega, h2, fun j hj => ?_⟩
      cases j with
      | zero => exact q
      | succ j => exact h3 j (by omega)
theorem used_set : ∀ {t : List Nd} {k : Nat} (h : k < t.length) (n : Nd), usedT (t.set k n) + (if (t[k]).kind ≠ 0 then 1 else 0) = usedT t + if n.kind ≠ 0 then 1 else 0
  | [], _, h, _ => absurd h (Nat.not_lt_zero _)
  | m :: t, 0, _, n => by
    have h1 : usedT (n :: t) = usedT t + if decide (n.kind ≠ 0) = true then 1 else 0 := List.countP_cons ..
    have h2 : usedT (m :: t) = usedT t + if decide (m.kind ≠ 0) = true then 1 else 0 := List.countP_cons ..
    rw [List.set_cons_zero, h1, h2]
    simp only [decide_eq_true_eq, List.getElem_cons_zero]
    omega
  | m :: t, k + 1, h, n => by
    have ih := used_set (t := t) (k := k) (by rw [List.length_cons] at h; omega) n
    have h1 : usedT (m :: t.set k n) = usedT (t.set k n) + if decide (m.kind ≠ 0) = true then 1 else 0 := List.countP_cons ..
    have h2 : usedT (m :: t) = usedT t + if decide (m.kind ≠ 0) = true then 1 else 0 := List.countP_cons ..
    rw [List.set_cons_succ, h1, h2]
    simp only [List.getElem_cons_succ]
    omega

def putE (t : List Nd) (i : Int) (right : Bool) : Int := if tis t i = false then 2 else if right = false then 22 else 0
def setT (t : List Nd) (i : Int) (n : Nd) : List Nd := t.set (i - 1).toNat n
def addE (t : List Nd) (right : Bool) : Int := if right = false then 22 else if freeT t 0 = 0 then 28 else 0
theorem len_setT (t : List Nd) (i : Int) (n : Nd) : (setT t i n).length = t.length := List.length_set ..
theorem tget_set {t : List Nd} {i j : Int} {n : Nd} (h : 1 ≤ i ∧ i ≤ t.length) : tget (setT t i n) j = if j = i then n else tget t j := by
  by_cases q : 1 ≤ j ∧ j ≤ t.length
  · have e : j = ((j - 1).toNat : Int) + 1 := by omega
    have hl : (j - 1).toNat < (setT t i n).length := by rw [len_setT]; omega
    have h1 : tget (setT t i n) j = (setT t i n)[(j - 1).toNat] := by
      have := tget_at hl
      rw [← e] at this
      exact this
    have h2 : tget t j = t[(j - 1).toNat]'(by omega) := by
      have := tget_at (t := t) (k := (j - 1).toNat) (by omega)
      rw [← e] at this
      exact this
    rw [h1, h2, show (setT t i n)[(j - 1).toNat] = if (i - 1).toNat = (j - 1).toNat then n else t[(j - 1).toNat]'(by omega) from List.getElem_set ..]
    by_cases q2 : j = i
    · rw [if_pos (by rw [q2]), if_pos q2]
    · rw [if_neg (by omega), if_neg q2]
  · rw [tget_out (by rw [len_setT]; exact q), tget_out q, if_neg (by rintro rfl; exact q h)]
theorem cnt_pos {l : List En} {i : Int} : cntE l i ≠ 0 ↔ ∃ e ∈ l, e.2 = i := by
  unfold cntE
  constructor
  · intro h
    obtain ⟨e, h1, h2⟩ := List.countP_pos_iff.1 (Nat.pos_of_ne_zero h)
    exact ⟨e, h1, of_decide_eq_true h2⟩
  · rintro ⟨e, h1, h2⟩
    exact Nat.pos_iff_ne_zero.1 (List.countP_pos_iff.2 ⟨e, h1, decide_eq_true h2⟩)
end Go.Proofs.YtnkjaocmfhjnoaaGreat
namespace Go.Proofs.YtnkjaocmfhjnoaaGreat
open Go Go.RowKit
set_option maxRecDepth 100000

theorem fil_len (a : Int) : ∀ (l : List Int), l.Nodup → l.length ≤ (l.filter (fun x => decide (x ≠ a))).length + 1
  | [], _ => Nat.zero_le _
  | x :: l, h => by
    obtain ⟨h1, h2⟩ := List.nodup_cons.1 h
    by_cases q : x = a
    · have e : l.filter (fun x => decide (x ≠ a)) = l := by
        refine List.filter_eq_self.2 (fun y hy => decide_eq_true ?_)
        rintro rfl
        exact h1 (q ▸ hy)
      rw [List.filter_cons_of_neg (by simp [q]), e, List.length_cons]
      exact Nat.le_refl _
    · have ih := fil_len a l h2
      rw [List.filter_cons_of_pos (by simp [q]), List.length_cons, List.length_cons]
      omega
theorem pig : ∀ (L : Nat) (l : List Int), l.Nodup → (∀ x ∈ l, 1 ≤ x ∧ x ≤ L) → l.length ≤ L
  | 0, l, _, h => by
    cases l with
    | nil => exact Nat.le_refl _
    | cons x l =>
      have := h x (List.mem_cons_self ..)
      omega
  | L + 1, l, hn, h => by
    have h1 := pig L (l.filter (fun x => decide (x ≠ (L : Int) + 1))) (List.Pairwise.filter _ hn) (fun x hx => by
      obtain ⟨ha, hb⟩ := List.mem_filter.1 hx
      have hb := of_decide_eq_true hb
      have := h x ha
      omega)
    have h2 := fil_len ((L : Int) + 1) l hn
    omega
def itr (f : Int → Int) : Nat → Int → Int
  | 0, i => i
  | m + 1, i => itr f m (f i)
theorem itr_add (f : Int → Int) : ∀ (a b : Nat) (i : Int), itr f (a + b) i = itr f b (itr f a i)
  | 0, b, i => by rw [Nat.zero_add]; rfl
  | a + 1, b, i => by
    rw [show a + 1 + b = (a + b) + 1 by omega]
    exact itr_add f a b (f i)
theorem itr_zero {f : Int → Int} (h : f 0 = 0) : ∀ m, itr f m 0 = 0
  | 0 => rfl
  | m + 1 => by
    rw [itr, h]
    exact itr_zero h m
def ways (f : Int → Int) : Nat → Int → List Int
  | 0, i => [i]
  | m + 1, i => i :: ways f m (f i)
theorem len_ways (f : Int → Int) : ∀ (m : Nat) (i : Int), (ways f m i).length = m + 1
  | 0, _ => rfl
  | m + 1, i => by rw [ways, List.length_cons, len_ways f m (f i)]
theorem mem_ways {f : Int → Int} {x : Int} : ∀ {m : Nat} {i : Int}, x ∈ ways f m i → ∃ a, a ≤ m ∧ itr f a i = x
  | 0, i, h => ⟨0, Nat.le_refl _, by rw [ways, List.mem_singleton] at h; exact h.symm⟩
  | m + 1, i, h => by
    rw [ways] at h
    rcases List.mem_cons.1 h with h | h
    · exact ⟨0, Nat.zero_le _, h.symm⟩
    · obtain ⟨a, h1, h2⟩ := mem_ways h
      exact ⟨a + 1, by omega, h2⟩
theorem nodup_ways {f : Int → Int} : ∀ {m : Nat} {i : Int}, itr f m i = 1 → (∀ a, a < m → itr f a i ≠ 1) → (ways f m i).Nodup
  | 0, i, _, _ => by rw [ways]; exact List.nodup_cons.2 ⟨List.not_mem_nil, List.nodup_nil⟩
  | m + 1, i, h, hmin => by
    rw [ways]
    refine List.nodup_cons.2 ⟨fun hx => ?_, nodup_ways (i := f i) h (fun a ha => hmin (a + 1) (by omega))⟩
    obtain ⟨a, h1, h2⟩ := mem_ways hx
    -- behind a + 1 steps one is at i again, so 1 comes earlier
    have h3 : itr f (a + 1) i = i := h2
    have h4 : itr f (m - a) i = 1 := by
      have h5 := itr_add f (a + 1) (m - a) i
      rw [show a + 1 + (m - a) = m + 1 by omega, h3] at h5
      rw [← h5]; exact h
    exact hmin (m - a) (by omega) h4
theorem least_way {f : Int → Int} {i : Int} : ∀ (m : Nat), itr f m i = 1 → ∃ k, k ≤ m ∧ itr f k i = 1 ∧ ∀ a, a < k → itr f a i ≠ 1 := by
  intro m
  induction m using Nat.strongRecOn with
  | ind m ih =>
    intro h
    by_cases q : ∃ a, a < m ∧ itr f a i = 1
    · obtain ⟨a, h1, h2⟩ := q
      obtain ⟨k, h3, h4, h5⟩ := ih a h1 h2
      exact ⟨k, by omega, h4, h5⟩
    · exact ⟨m, Nat.le_refl _, h, fun a ha hb => q ⟨a, ha, hb⟩⟩
theorem root_bound {f : Int → Int} {L : Nat} (h0 : f 0 = 0) (hf : ∀ x, 0 ≤ f x ∧ f x ≤ L) {i : Int} (hi : 0 ≤ i ∧ i ≤ L) {m : Nat} (h : itr f m i = 1) : ∃ k, k < L ∧ itr f k i = 1 := by
  obtain ⟨k, _, h2, h3⟩ := least_way m h
  have hr : ∀ a, 0 ≤ itr f a i ∧ itr f a i ≤ L := by
    intro a
    cases a with
    | zero => exact hi
    | succ a =>
      have := itr_add f a 1 i
      rw [this]
      exact hf _
  refine ⟨k, ?_, h2⟩
  have h4 := pig L (ways f k i) (nodup_ways h2 h3) (fun x hx => by
    obtain ⟨a, ha, hb⟩ := mem_ways hx
    have h5 := hr a
    rw [hb] at h5
    by_cases q : x = 0
    · have h6 := itr_add f a (k - a) i
      rw [hb, q, itr_zero h0, show a + (k - a) = k by omega, h2] at h6
      omega
    · omega)
  rw [len_ways] at h4
  omega
def parF (t : List Nd) (i : Int) : Int := (parT t 0 i : Int)
theorem parF_le (t : List Nd) (i : Int) : 0 ≤ parF t i ∧ parF t i ≤ t.length := by
  have := par_le (i := i) t 0
  unfold parF
  omega
theorem link_low {t : List Nd} (h : okT t) {i : Int} (hi : i < 1) : linkT t i = 0 := by
  unfold linkT
  induction t with
  | nil => rfl
  | cons n t ih =>
    rw [List.map_cons, List.sum_cons, ih (fun m hm => h m (List.mem_cons_of_mem _ hm)), Nat.add_zero]
    by_cases q : cntE n.ents i = 0
    · exact q
    · obtain ⟨e, h1, h2⟩ := cnt_pos.1 q
      rcases h n (List.mem_cons_self ..) with q | q
      · rw [q] at h1; cases h1
      · rcases q.2 with q | q | q
        · rw [q.2.1] at h1; cases h1
        · have := (q.2.2.2.1 e h1).2
          omega
        · rw [q.2.2.1] at h1; cases h1
theorem parF_zero {t : List Nd} (h : okT t) : parF t 0 = 0 := by
  unfold parF
  rw [(par_zero t 0).2 (link_low h (by omega))]
  rfl
end Go.Proofs.YtnkjaocmfhjnoaaGreat
namespace Go.Proofs.YtnkjaocmfhjnoaaGreat
open Go Go.RowKit
set_option maxRecDepth 100000

theorem tis_in {t : List Nd} {i : Int} (h : tis t i = true) : 1 ≤ i ∧ i ≤ t.length := by
  by_cases q : 1 ≤ i ∧ i ≤ t.length
  · exact q
  · rw [tis, tget_out q] at h
    exact absurd rfl (of_decide_eq_true h)
theorem used_setT {t : List Nd} {i : Int} (h : 1 ≤ i ∧ i ≤ t.length) (n : Nd) : usedT (setT t i n) + (if tis t i = true then 1 else 0) = usedT t + if n.kind ≠ 0 then 1 else 0 := by
  have hk : (i - 1).toNat < t.length := by omega
  have h1 := used_set hk n
  have h2 := tget_at hk
  rw [show (((i - 1).toNat : Nat) : Int) + 1 = i by omega] at h2
  unfold tis setT
  rw [h2]
  simp only [decide_eq_true_eq]
  exact h1
theorem free_is {t : List Nd} (h : freeT t 0 ≠ 0) : (1 ≤ (freeT t 0 : Int) ∧ (freeT t 0 : Int) ≤ t.length) ∧ tis t (freeT t 0) = false ∧ ∀ j : Int, 1 ≤ j → j < freeT t 0 → tis t j = true := by
  obtain ⟨k, hk, h1, h2, h3⟩ := free_some h
  have e : ((freeT t 0 : Nat) : Int) = (k : Int) + 1 := by omega
  refine ⟨by omega, ?_, fun j hj hj2 => ?_⟩
  · rw [e, tis, tget_at hk]
    exact decide_eq_false (fun q => q h2)
  · have hl : (j - 1).toNat < k := by omega
    have e2 : j = (((j - 1).toNat : Nat) : Int) + 1 := by omega
    rw [e2, tis, tget_at (by omega)]
    exact decide_eq_true (h3 _ hl)
theorem used_add {t : List Nd} (h : freeT t 0 ≠ 0) {n : Nd} (hn : rightP n) : usedT (setT t (freeT t 0) n) = usedT t + 1 := by
  obtain ⟨h1, h2, _⟩ := free_is h
  have := used_setT h1 n
  rw [if_neg (by rw [h2]; exact Bool.false_ne_true), if_pos (right_kind hn)] at this
  exact this
theorem used_drop {t : List Nd} {i : Int} (h : tis t i = true) : usedT (setT t i Nd.zero) + 1 = usedT t := by
  have := used_setT (tis_in h) Nd.zero
  rw [if_pos h, if_neg (fun q => q rfl)] at this
  exact this
theorem used_put {t : List Nd} {i : Int} (h : tis t i = true) {n : Nd} (hn : rightP n) : usedT (setT t i n) = usedT t := by
  have := used_setT (tis_in h) n
  rw [if_pos h, if_pos (right_kind hn)] at this
  omega
theorem used_le (t : List Nd) : usedT t ≤ t.length := List.countP_le_length
theorem used_new (r : Nat) : usedT (List.replicate r Nd.zero) = 0 := by
  unfold usedT
  refine List.countP_eq_zero.2 (fun n hn => ?_)
  rw [List.eq_of_mem_replicate hn]
  exact fun q => of_decide_eq_true q rfl
theorem tget_new (r : Nat) (i : Int) : tget (List.replicate r Nd.zero) i = Nd.zero := by
  rcases (show (1 ≤ i ∧ i ≤ (List.replicate r Nd.zero).length) ∨ ¬ (1 ≤ i ∧ i ≤ (List.replicate r Nd.zero).length) from Classical.em _) with q | q
  · have e : i = (((i - 1).toNat : Nat) : Int) + 1 := by omega
    rw [e, tget_at (by omega), List.getElem_replicate]
  · exact tget_out q
def actT (t : List Nd) (d i : Int) (n : Nd) (r : Bool) : List Nd :=
  if d = 0 then (if tis t i = true ∧ r = true then setT t i n else t)
  else if d = 1 then (if r = true ∧ freeT t 0 ≠ 0 then setT t (freeT t 0) n else t)
  else if tis t i = true then setT t i Nd.zero else t
theorem ok_setT {t : List Nd} (h : okT t) (i : Int) {n : Nd} (hn : n = Nd.zero ∨ rightP n) : okT (setT t i n) := ok_set h _ hn
def sameT (t u : List Nd) : Prop := ∀ i : Int, tget t i = tget u i
theorem same_24 {t u : List Nd} (ht : t.length ≤ 24) (hu : u.length ≤ 24) : sameT t u ↔ ∀ k : Nat, k < 24 → tget t (k + 1) = tget u (k + 1) := by
  constructor
  · intro h k _; exact h _
  · intro h i
    by_cases q : 1 ≤ i ∧ i ≤ 24
    · have := h (i - 1).toNat (by omega)
      rwa [show (((i - 1).toNat : Nat) : Int) + 1 = i by omega] at this
    · rw [tget_out (by omega), tget_out (by omega)]
end Go.Proofs.YtnkjaocmfhjnoaaGreat
namespace Go.Proofs.YtnkjaocmfhjnoaaGreat
open Go Go.RowKit
set_option maxRecDepth 100000

def co (c : UInt8) : Int := (c.toNat : Int)
theorem co_inj {a b : UInt8} (h : co a = co b) : a = b := UInt8.toNat_inj.1 (by unfold co at h; omega)
theorem co_ne {a b : UInt8} (h : ¬ a = b) : (co a == co b) = false := by
  rw [beq_eq_false_iff_ne]
  exact fun e => h (co_inj e)
theorem size_len (s : ByteArray) : s.data.toList.length = s.size := by simp
theorem empty_iff (s : ByteArray) : s.toList = [] ↔ s.size = 0 := by
  rw [ByteArray.toList_eq, ← List.length_eq_zero_iff, Array.length_toList]
  rfl
theorem empty_false {s : ByteArray} (h : ¬ s.size = 0) : s.toList.isEmpty = false := by
  rw [Bool.eq_false_iff]
  intro h2
  exact h ((empty_iff s).1 (List.isEmpty_iff.1 h2))
theorem ba_ext {s t : ByteArray} (h : s.data.toList = t.data.toList) : s = t := by
  obtain ⟨⟨a⟩⟩ := s
  obtain ⟨⟨b⟩⟩ := t
  simp only at h
  rw [h]
def bA (l : List UInt8) : ByteArray := ⟨⟨l⟩⟩
def tl (s : ByteArray) : List UInt8 := s.data.toList
theorem tl_bA (l : List UInt8) : tl (bA l) = l := rfl
theorem bA_tl (s : ByteArray) : bA (tl s) = s := ba_ext rfl
theorem tl_len (s : ByteArray) : (tl s).length = s.size := size_len s
theorem size_bA (l : List UInt8) : (bA l).size = l.length := by rw [← tl_len, tl_bA]
theorem tl_at {s : ByteArray} {k : Nat} (h : k < s.size) : (tl s)[k]? = some s[k] := Lib.data_getElem? s k h

end Go.Proofs.YtnkjaocmfhjnoaaGreat
namespace Go.Proofs.YtnkjaocmfhjnoaaGreat
open Go Go.RowKit
set_option maxRecDepth 100000

theorem grown_of_below {a w : World} (h : Below a.heap.size a w) (row : Option Nat) : a.grownBy w row := ⟨h.os, h.tape, h.output, h.size, fun i hi _ => h.block i hi⟩
theorem grown_setCell (w : World) (p : Addr) (u : Value) : w.grownBy (w.setCell p u) (some p.block) :=
  ⟨rfl, rfl, rfl, by simp [World.setCell], fun i _ hne => Below.heap_setCell w p u i (fun e => hne (by rw [e]))⟩
theorem grown_trans {a b c : World} {row : Option Nat} (h : a.grownBy b row) (k : b.grownBy c row) : a.grownBy c row :=
  ⟨k.os.trans h.os, k.tape.trans h.tape, k.output.trans h.output, Nat.le_trans h.size k.size, fun i hi hne => (k.block i (Nat.lt_of_lt_of_le hi h.size) hne).trans (h.block i hi hne)⟩

def Blk (w : World) (g : Nat) (t : TypeId) (cs : Array Value) : Prop := w.heap[g]? = some (.cells cs t (0, 0))
section
variable {w w' : World} {g : Nat} {t : TypeId} {cs : Array Value}
theorem Blk.lt (h : Blk w g t cs) : g < w.heap.size := (Array.getElem?_eq_some_iff.1 h).1
theorem Blk.cell (h : Blk w g t cs) (i : Nat) : w.cell? ⟨g, i, none⟩ = cs[i]? := cell_of_row w g i cs t (0, 0) h
theorem Blk.frozen (h : Blk w g t cs) (i : Nat) : w.frozen? ⟨g, i, none⟩ = false := by
  unfold Blk at h
  simp [World.frozen?, h]
theorem Blk.new (w : World) (t : TypeId) (cs : Array Value) : Blk (w.alloc (.cells cs t)) w.heap.size t cs := heap_alloc_new w _
theorem Blk.kept {row : Option Nat} (h : Blk w g t cs) (hg : w.grownBy w' row) (hne : some g ≠ row) : Blk w' g t cs := (hg.block g h.lt hne).trans h
theorem Blk.set_ (h : Blk w g t cs) (i : Nat) (u : Value) : Blk (w.setCell ⟨g, i, none⟩ u) g t (cs.setIfInBounds i u) := by
  unfold Blk at h ⊢
  simp [World.setCell, Array.getElem?_modify, h]
theorem Blk.alloc (h : Blk w g t cs) (o : Obj) : Blk (w.alloc o) g t cs := (Below.heap_alloc w o g h.lt).trans h
theorem Blk.below (h : Blk w g t cs) (hb : Below w.heap.size w w') : Blk w' g t cs := (hb.block g h.lt).trans h
end
theorem own_blk_ne {w : World} {B g : Nat} {e t : TypeId} {size n : Nat} {v : Value} {xs : List Value} {cs : Array Value} (h : w.ownsRow B e size v n xs) (hk : Blk w g t cs) (hne : e ≠ t) : v.ownBlock ≠ some g := by
  rcases h.2 with ⟨rfl, _⟩ | ⟨g', cap, cur, rfl, _, hh, _⟩
  · simp [Value.ownBlock]
  · intro he
    have : g' = g := by simpa [Value.ownBlock] using he
    subst this
    unfold Blk at hk
    rw [hk] at hh
    injection hh with hh
    injection hh with _ ht
    exact hne ht.symm
theorem own_below {w w' : World} {B : Nat} {e : TypeId} {size n : Nat} {v : Value} {xs : List Value} (h : w.ownsRow B e size v n xs) (hb : Below w.heap.size w w') : w'.ownsRow B e size v n xs :=
  h.kept (grown_of_below hb none) (by cases hv : v.ownBlock <;> simp)
theorem own_slice {w : World} {B : Nat} {e : TypeId} {size n : Nat} {v : Value} {xs : List Value} (h : w.ownsRow B e size v n xs) : ∃ (A : Option Addr) (c : Nat), v = .slice A n c := by
  rcases h.2 with ⟨rfl, rfl⟩ | ⟨g', cap, cur, rfl, _⟩
  · exact ⟨none, 0, rfl⟩
  · exact ⟨some ⟨g', 0, none⟩, cap, rfl⟩

theorem add_lit (g k : Nat) : (⟨g, 0, none⟩ : Addr).add k = ⟨g, k, none⟩ := by rw [Addr.add_lit, Nat.zero_add]
theorem add_two (a : Addr) (i j : Nat) : (a.add i).add j = a.add (i + j) := by
  unfold Addr.add
  by_cases hi : i = 0 <;> by_cases hj : j = 0 <;> simp [hi, hj, Nat.add_assoc]
theorem add_pos (a : Addr) (j : Nat) (hj : j ≠ 0) : a.add j = ⟨a.block, a.off + j, none⟩ := by unfold Addr.add; rw [if_neg hj]
theorem add_none (a : Addr) : a.add 0 = a := by unfold Addr.add; rw [if_pos rfl]
theorem take_snoc' {α : Type} {l : List α} {k : Nat} {x : α} (h : l[k]? = some x) : l.take (k + 1) = l.take k ++ [x] := by rw [List.take_add_one, h]; rfl

def StrsR (w : World) (v : Value) (l : List ByteArray) : Prop := ∃ A c, v = .slice A l.length c ∧ (l.length ≤ c ∧ (A = none → c = 0)) ∧ ∀ (k : Nat) (s : ByteArray), l[k]? = some s → ∃ ad : Addr, A = some ad ∧ w.cell? (ad.add k) = some (.string s)
def BytesR (w : World) (v : Value) (l : List UInt8) : Prop := ∃ A c, v = .slice A l.length c ∧ ∀ (k : Nat) (b : UInt8), l[k]? = some b → ∃ ad : Addr, A = some ad ∧ w.cell? (ad.add k) = some (.int .u8 (co b))
theorem StrsR.below {w w' : World} {v : Value} {l : List ByteArray} (h : StrsR w v l) (hb : Below w.heap.size w w') : StrsR w' v l := by
  obtain ⟨A, c, hv, hle, hc⟩ := h
  refine ⟨A, c, hv, hle, fun k a hk => ?_⟩
  obtain ⟨ad, hA, h0⟩ := hc k a hk
  exact ⟨ad, hA, bc hb h0⟩
theorem BytesR.below {w w' : World} {v : Value} {l : List UInt8} (h : BytesR w v l) (hb : Below w.heap.size w w') : BytesR w' v l := by
  obtain ⟨A, c, hv, hc⟩ := h
  refine ⟨A, c, hv, fun k a hk => ?_⟩
  obtain ⟨ad, hA, h0⟩ := hc k a hk
  exact ⟨ad, hA, bc hb h0⟩
theorem StrsR.nil (w : World) : StrsR w (.slice none 0 0) [] := ⟨none, 0, rfl, ⟨Nat.le_refl _, fun _ => rfl⟩, fun k s h => by simp at h⟩
def sCells (l : List ByteArray) : List Value := l.map .string
theorem sCells_at (l : List ByteArray) (k : Nat) (s : ByteArray) (h : l[k]? = some s) : (sCells l)[k]? = some (.string s) := by simp [sCells, h]
theorem row_at {w : World} {B : Nat} {e : TypeId} {size n g cap : Nat} {xs : List Value} (h : w.ownsRow B e size (.slice (some ⟨g, 0, none⟩) n cap) n xs) (j : Nat) (u : Value) (hj : xs[j]? = some u) : w.cell? ⟨g, j, none⟩ = some u := by
  have := World.ownsRow.cells h (g := g) rfl j u hj
  rwa [add_lit] at this
theorem StrsR.of_own {w : World} {B : Nat} {e : TypeId} {v : Value} {l : List ByteArray} (h : w.ownsRow B e 1 v l.length (sCells l)) : StrsR w v l := by
  rcases h.2 with ⟨rfl, hn⟩ | ⟨g, cap, cur, rfl, _, _, hc, _⟩
  · have : l = [] := List.eq_nil_of_length_eq_zero hn
    subst this
    exact StrsR.nil w
  · refine ⟨some ⟨g, 0, none⟩, cap, rfl, ⟨hc, fun e => by cases e⟩, fun k a hk => ⟨_, rfl, ?_⟩⟩
    rw [add_lit]
    exact row_at h _ _ (sCells_at l k a hk)
theorem info_str : (Tryz.prog.info? 9).map (fun i => (i.zero, i.size, i.bytes)) = some (some (.string ⟨#[]⟩), 1, 16) := by kernel_rfl
theorem wpList_append_one {P : Program} {ops : Array Oper} {rest : List Oper} {o : Oper} {a : Act} {Q : Exit → Act → World → Prop} (hgd : o.guard = none) (s x : Operand) (t : TypeId)
    (ho : o.op = .call { callee := .builtin .append, args := #[s, x], argTypes := #[t, t] }) (B : Nat) (e : TypeId) (z : Value) (size bytes : Nat) (ht : P.underlying t = some (.slice e))
    (hi : (P.info? e).map (fun i => (i.zero, i.size, i.bytes)) = some (some z, size, bytes)) (hzs : z.cells.size = size) (hsz : 0 < size)
    (v : Value) (n : Nat) (xs : List Value) (hs : a.eval s = v) (w0 : World) (cs : List Value) (hcs : cs.length = size) (h1 : ∀ u ∈ cs, u.oneCell' = true) (hown : w0.ownsRow B e size v n xs)
    (hx : a.eval x = .slice (some ⟨w0.heap.size, 0, none⟩) 1 1) (hlen : (n + 1) * bytes ≤ 140737488355328) (hn : n + 1 ≤ 1000000000) (hB : B ≤ w0.heap.size)
    (h : ∀ v' w', w'.ownsRow B e size v' (n + 1) (xs ++ cs) → w0.grownBy w' v.ownBlock → wpList P ops Q rest (a.put o.dst v') w') : wpList P ops Q (o :: rest) a (w0.alloc (.cells cs.toArray e)) := by
  obtain ⟨i, hi0, hz0, hz1, hz2⟩ := info_parts hi
  refine wpList_append_own _ hgd s x t ho B e i z size bytes ht hi0 hz0 hz1 hz2 hzs hsz v n xs hs (hown.alloc _) ⟨w0.heap.size, 0, none⟩ 1 1 cs hx (by rw [hcs, Nat.one_mul]) ?_ h1 (by unfold maxLen; omega) hlen (by simp; omega) ?_
  · exact fun j u hj => World.news_of_block (heap_alloc_new w0 (.cells cs.toArray e)) j u (by simpa using hj)
  · intro v' w' ho' hg _
    exact h v' w' ho' (grown_trans (World.grownBy_alloc w0 _ _) hg)
theorem src_strs {w : World} {ad : Addr} {c : Nat} {l : List ByteArray} (h : StrsR w (.slice (some ad) l.length c) l) : ∀ (j : Nat) (u : Value), (sCells l)[j]? = some u → w.cell? (ad.add j) = some u := by
  obtain ⟨A, c', hv, _, hc⟩ := h
  injection hv with hA
  intro j u hj
  have hlt : j < l.length := by
    rcases Nat.lt_or_ge j l.length with h | h
    · exact h
    · rw [sCells, List.getElem?_eq_none (by simpa using h)] at hj
      cases hj
  have hs := List.getElem?_eq_getElem hlt
  obtain ⟨ad', hA', h0⟩ := hc j _ hs
  rw [sCells_at l j _ hs] at hj
  injection hj with hj
  rw [← hj]
  rw [← hA] at hA'
  injection hA' with hA'
  rw [hA']
  exact h0
theorem sCells_one (l : List ByteArray) : ∀ u ∈ sCells l, u.oneCell' = true := by
  intro u hu
  rw [sCells, List.mem_map] at hu
  obtain ⟨s, _, rfl⟩ := hu
  rfl
theorem wpList_append_strs {ops : Array Oper} {rest : List Oper} {o : Oper} {a : Act} {Q : Exit → Act → World → Prop} {w0 : World} (hgd : o.guard = none) (s x : Operand)
    (ho : o.op = .call { callee := .builtin .append, args := #[s, x], argTypes := #[55, 55] }) (B : Nat) (v : Value) (l : List ByteArray) (hs : a.eval s = v) (hown : w0.ownsRow B 9 1 v l.length (sCells l))
    (vx : Value) (m : List ByteArray) (hx : a.eval x = vx) (hm : StrsR w0 vx m) (hn : l.length + m.length ≤ 100000000) (hB : B ≤ w0.heap.size)
    (h : ∀ v' w', w'.ownsRow B 9 1 v' (l ++ m).length (sCells (l ++ m)) → w0.grownBy w' v.ownBlock → wpList Tryz.prog ops Q rest (a.put o.dst v') w') : wpList Tryz.prog ops Q (o :: rest) a w0 := by
  obtain ⟨i, hi0, hz0, hz1, hz2⟩ := info_parts info_str
  obtain ⟨A, c, rfl, hle, hc⟩ := id hm
  cases A with
  | none =>
    have hm0 : m = [] := by
      cases m with
      | nil => rfl
      | cons y m' =>
        obtain ⟨ad, e, _⟩ := hc 0 y rfl
        cases e
    subst hm0
    have hc0 : c = 0 := hle.2 rfl
    subst hc0
    refine wpList_append_own_none hgd s x _ ho B 9 i 1 Tryz.underlying55 hi0 v l.length (sCells l) hs hown hx (h v w0 ?_ ⟨rfl, rfl, rfl, Nat.le_refl _, fun _ _ _ => rfl⟩)
    rw [List.append_nil]
    exact hown
  | some ad =>
    refine wpList_append_own _ hgd s x _ ho B 9 i _ 1 16 Tryz.underlying55 hi0 hz0 hz1 hz2 rfl (by decide) v l.length (sCells l) hs hown ad m.length c (sCells m) hx (by simp [sCells]) (src_strs hm) (sCells_one m) (by unfold maxLen; omega) (by omega) hB ?_
    intro v' w' ho' hg _
    refine h v' w' ?_ hg
    rw [List.length_append]
    simpa [sCells] using ho'

theorem own_nil_str (w : World) : w.ownsRow w.heap.size 9 1 (.slice none 0 0) ([] : List ByteArray).length (sCells []) := World.ownsRow_nil _ _ _ _
theorem sCells_snoc (l : List ByteArray) (s : ByteArray) : sCells l ++ [.string s] = sCells (l ++ [s]) := by simp [sCells]
theorem str_one (s : ByteArray) : ∀ u ∈ [Value.string s], u.oneCell' = true := by
  intro u hu
  rw [List.mem_singleton] at hu
  subst hu
  rfl
theorem al {w w1 : World} (h : Below w.heap.size w w1) (o : Obj) : Below w.heap.size w (w1.alloc o) := h.alloc h.size o
theorem app_one {W w4 w5 : World} {B : Nat} {v v5 : Value} {l : List ByteArray} {s : ByteArray} (hb : Below B W w4) (hB : B ≤ w4.heap.size) (ho4 : w4.ownsRow B 9 1 v l.length (sCells l)) (ho : w5.ownsRow B 9 1 v5 (l.length + 1) (sCells l ++ [.string s])) (hg : w4.grownBy w5 v.ownBlock) :
    ∃ A c, v5 = .slice A (l.length + 1) c ∧ w5.ownsRow B 9 1 (.slice A (l.length + 1) c) (l ++ [s]).length (sCells (l ++ [s])) ∧ Below B W w5 := by
  obtain ⟨A, c, rfl⟩ := own_slice ho
  rw [sCells_snoc] at ho
  exact ⟨A, c, rfl, by rw [List.length_append]; exact ho, hb.grown hg hB (fun q hq => (ho4.lt q hq).1)⟩
end Go.Proofs.YtnkjaocmfhjnoaaGreat
namespace Go.Proofs.YtnkjaocmfhjnoaaGreat
open Go Go.RowKit
set_option maxRecDepth 100000

theorem back_co (c : UInt8) : (co c).toNat.toUInt8 = c := Lib.byte_back c
theorem lindex_any (s : ByteArray) (c : UInt8) (w : World) :
    Calls Tryz.prog 207 #[.string s, .int .u8 (co c)] w fun e w' => e = .returned (.int .i64 (Lib.indexByte s.data.toList c)) ∧ w = w' := by
  have hb := Lib.hid (back_co c)
  generalize co c = n at hb ⊢
  go_enter Tryz.func207, Tryz.ntmps207
  go_wp2
  rw [run_callFunc_extern Tryz.func224 (by kernel_rfl) (by kernel_rfl) (by kernel_rfl) (e := Extern.BytealgIndexByte.indexByte) (by kernel_rfl), Lib.run_indexByteString]
  simp only [Result.andThen]
  rw [Oper.upon_value]
  go_wp2
  go_ret
  exact ⟨ret_int (by rw [show UInt8.ofNat n.toNat = c from hb.out]), rfl⟩
theorem index_any (s : ByteArray) (c : UInt8) (w : World) :
    Calls Tryz.prog 187 #[.string s, .int .u8 (co c)] w fun e w' => e = .returned (.int .i64 (Lib.indexByte s.data.toList c)) ∧ w = w' := by
  have H := Lib.hid (lindex_any s c w)
  generalize Lib.indexByte s.data.toList c = X at H ⊢
  go_enter Tryz.func187, Tryz.ntmps187
  go_wp2_with fail
  refine H.out.mono ?_
  rintro e w' ⟨rfl, rfl⟩
  go_wp2
  go_ret
  exact ⟨rfl, rfl⟩
theorem index_has (c : UInt8) : ∀ l : List UInt8, decide (Lib.indexByte l c ≥ 0) = l.contains c
  | [] => rfl
  | b :: l => by
    have ih := index_has c l
    rw [Lib.indexByte, List.contains_cons]
    by_cases h : b = c
    · subst h
      simp
    · have hb : (b == c) = false := by rw [beq_eq_false_iff_ne]; exact h
      have hc : (c == b) = false := by rw [beq_eq_false_iff_ne]; exact fun e => h e.symm
      rw [hb, hc, Bool.false_or, ← ih]
      rw [if_neg (by decide)]
      split
      · rename_i h2
        have h3 : Lib.indexByte l c = -1 := by simpa using h2
        rw [h3]
      · rename_i h2
        have h3 : ¬ Lib.indexByte l c = -1 := by simpa using h2
        congr 1
        apply propext
        constructor <;> intro h4 <;> omega
theorem has_any (s : ByteArray) (c : UInt8) (w : World) :
    Calls Tryz.prog 158 #[.string s, .int .u8 (co c)] w fun e w' => e = .returned (.bool ((tl s).contains c)) ∧ w = w' := by
  have H := Lib.hid (index_any s c w)
  have HX := Lib.hid (index_has c s.data.toList)
  obtain ⟨R, hR⟩ : ∃ R, (tl s).contains c = R := ⟨_, rfl⟩
  rw [hR]
  have HX := Lib.hid (show decide (Lib.indexByte s.data.toList c ≥ 0) = R from (index_has c _).trans hR)
  clear hR
  generalize Lib.indexByte s.data.toList c = X at H HX
  go_enter Tryz.func158, Tryz.ntmps158
  go_wp2_with fail
  refine H.out.mono ?_
  rintro e w' ⟨rfl, rfl⟩
  go_wp2
  go_ret
  exact ⟨ret_bool (by rw [← HX.out]), rfl⟩
def fitB (s : ByteArray) (m : Nat) : Bool := decide (0 < s.size ∧ s.size ≤ m) && !(tl s).contains 0
theorem neq_empty (s : ByteArray) : (s.toList != []) = decide (0 < s.size) := by
  by_cases h : 0 < s.size
  · rw [decide_eq_true h]
    simp only [bne_iff_ne, ne_eq]
    intro e
    have := (empty_iff s).1 e
    omega
  · rw [decide_eq_false h]
    have := (empty_iff s).2 (by omega)
    rw [this]
    rfl
theorem fits_any (s : ByteArray) (m : Nat) (w : World) (hs : s.size ≤ maxLen) :
    Calls Tryz.prog 116 #[.string s, .int .i64 (m : Int)] w fun e w' => e = .returned (.bool (fitB s m)) ∧ w = w' := by
  have hs' : s.size ≤ 9223372036854775807 := by unfold maxLen at hs; omega
  have HH := Lib.hid (has_any s 0 w)
  rw [show co 0 = 0 from rfl] at HH
  have HF := Lib.hid (show fitB s m = (decide (0 < s.size ∧ s.size ≤ m) && !(tl s).contains 0) from rfl)
  generalize (tl s).contains 0 = R at HH HF
  generalize fitB s m = F at HF ⊢
  have n0 := neq_empty s
  clear hs
  by_cases h0 : 0 < s.size
  · rw [decide_eq_true h0] at n0
    have i0 := empty_false (s := s) (by omega)
    by_cases h1 : s.size ≤ m
    · have h2 : (s.size : Int) ≤ (m : Int) := by omega
      rw [decide_eq_true ⟨h0, h1⟩, Bool.true_and] at HF
      go_enter Tryz.func116, Tryz.ntmps116
      go_wp2_with fail
      refine HH.out.mono ?_
      rintro e w' ⟨rfl, rfl⟩
      go_wp2
      go_ret
      exact ⟨ret_bool (by rw [HF.out]), rfl⟩
    · have h2 : ¬ (s.size : Int) ≤ (m : Int) := by omega
      rw [decide_eq_false (fun e => h1 e.2), Bool.false_and] at HF
      go_enter Tryz.func116, Tryz.ntmps116
      go_wp2
      go_ret
      exact ⟨ret_bool HF.out.symm, rfl⟩
  · rw [decide_eq_false h0] at n0
    rw [decide_eq_false (fun e => h0 e.1), Bool.false_and] at HF
    have i0 : s.toList = [] := (empty_iff s).2 (by omega)
    go_enter Tryz.func116, Tryz.ntmps116
    go_wp2
    go_ret
    exact ⟨ret_bool HF.out.symm, rfl⟩
theorem Fits_any (s : ByteArray) (w : World) (hs : s.size ≤ maxLen) :
    Calls Tryz.prog 87 #[.string s] w fun e w' => e = .returned (.bool (fitB s 64)) ∧ w = w' := by
  have HH := Lib.hid (fits_any s 64 w hs)
  go_enter Tryz.func87, Tryz.ntmps87
  go_wp2_with fail
  refine HH.out.mono ?_
  rintro e w' ⟨rfl, rfl⟩
  go_wp2
  go_ret
  exact ⟨rfl, rfl⟩
def namB (s : ByteArray) : Bool := fitB s 12 && (!(tl s).contains 47 && (!(s.toList == [46]) && !(s.toList == [46, 46])))
theorem Name_any (s : ByteArray) (w : World) (hs : s.size ≤ maxLen) :
    Calls Tryz.prog 115 #[.string s] w fun e w' => e = .returned (.bool (namB s)) ∧ w = w' := by
  have H1 := Lib.hid (fits_any s 12 w hs)
  have H2 := Lib.hid (has_any s 47 w)
  rw [show co 47 = 47 from rfl] at H2
  have HF := Lib.hid (show namB s = (fitB s 12 && (!(tl s).contains 47 && (!(s.toList == [46]) && !(s.toList == [46, 46])))) from rfl)
  generalize namB s = F at HF ⊢
  generalize fitB s 12 = X at H1 HF
  generalize (tl s).contains 47 = Y at H2 HF
  clear hs
  cases X with
  | false =>
    go_enter Tryz.func115, Tryz.ntmps115
    go_wp2_with fail
    refine H1.out.mono ?_
    rintro e w' ⟨rfl, rfl⟩
    go_wp2
    go_ret
    exact ⟨ret_bool (by rw [HF.out]; rfl), rfl⟩
  | true =>
    cases Y with
    | true =>
      go_enter Tryz.func115, Tryz.ntmps115
      go_wp2_with fail
      refine H1.out.mono ?_
      rintro e w' ⟨rfl, rfl⟩
      go_wp2_with fail
      refine H2.out.mono ?_
      rintro e w' ⟨rfl, rfl⟩
      go_wp2
      go_ret
      exact ⟨ret_bool (by rw [HF.out]; rfl), rfl⟩
    | false =>
      by_cases ha : s.toList = [46]
      · have ha1 : (s.toList == [46]) = true := by rw [ha]; rfl
        have HF1 := Lib.hid (show F = false by rw [HF.out, ha1]; rfl)
        go_enter Tryz.func115, Tryz.ntmps115
        go_wp2_with fail
        refine H1.out.mono ?_
        rintro e w' ⟨rfl, rfl⟩
        go_wp2_with fail
        refine H2.out.mono ?_
        rintro e w' ⟨rfl, rfl⟩
        go_wp2
        go_ret
        exact ⟨ret_bool HF1.out.symm, rfl⟩
      · have ha1 : (s.toList == [46]) = false := by rw [beq_eq_false_iff_ne]; exact ha
        have HF1 := Lib.hid (show F = !(s.toList == [46, 46]) by rw [HF.out, ha1]; rfl)
        go_enter Tryz.func115, Tryz.ntmps115
        go_wp2_with fail
        refine H1.out.mono ?_
        rintro e w' ⟨rfl, rfl⟩
        go_wp2_with fail
        refine H2.out.mono ?_
        rintro e w' ⟨rfl, rfl⟩
        go_wp2
        go_ret
        exact ⟨ret_bool (by rw [HF1.out]), rfl⟩

theorem nam_nok (s : ByteArray) : namB s = nok (tl s) := by
  unfold namB fitB nok badN
  rw [ByteArray.toList_eq, ← tl_len]
  show _ = (!(tl s == [] || tl s == [46] || tl s == [46, 46] || (tl s).contains 47 || (tl s).contains 0) && decide ((tl s).length ≤ 12))
  show (decide (0 < (tl s).length ∧ (tl s).length ≤ 12) && !(tl s).contains 0 && (!(tl s).contains 47 && (!(tl s == [46]) && !(tl s == [46, 46])))) = _
  generalize tl s = l
  cases l with
  | nil => rfl
  | cons c l =>
    have h0 : (c :: l == ([] : List UInt8)) = false := rfl
    have h1 : 0 < (c :: l).length := by simp
    rw [h0]
    generalize ((c :: l) == [46]) = A
    generalize ((c :: l) == [46, 46]) = B
    generalize (c :: l).contains 47 = C
    generalize (c :: l).contains 0 = D
    by_cases h : (c :: l).length ≤ 12
    · rw [decide_eq_true h, decide_eq_true (show 0 < (c :: l).length ∧ (c :: l).length ≤ 12 from ⟨h1, h⟩)]
      cases A <;> cases B <;> cases C <;> cases D <;> rfl
    · rw [decide_eq_false h, decide_eq_false (show ¬ (0 < (c :: l).length ∧ (c :: l).length ≤ 12) from fun e => h e.2)]
      cases A <;> cases B <;> cases C <;> cases D <;> rfl
theorem fit_fok (s : ByteArray) : fitB s 64 = fok (tl s) := by
  unfold fitB fok
  rw [tl_len]
end Go.Proofs.YtnkjaocmfhjnoaaGreat
namespace Go.Proofs.YtnkjaocmfhjnoaaGreat
open Go Go.RowKit
set_option maxRecDepth 100000

end Go.Proofs.YtnkjaocmfhjnoaaGreat
namespace Go.Proofs.YtnkjaocmfhjnoaaGreat
open Go Go.RowKit
set_option maxRecDepth 100000

end Go.Proofs.YtnkjaocmfhjnoaaGreat
namespace Go.Proofs.YtnkjaocmfhjnoaaGreat
open Go Go.RowKit
set_option maxRecDepth 100000

theorem ba (w : World) (o : Obj) : Below w.heap.size w (w.alloc o) := (Below.refl _ _).alloc (Nat.le_refl _) _
def eCells (l : List En) : List Value := l.flatMap fun e => [.string (bA e.1), .int .i64 e.2]
def bCells (l : List UInt8) : List Value := l.map fun b => .int .u8 (co b)
def iCells (l : List Int) : List Value := l.map fun n => .int .i64 n
theorem eCells_len : ∀ l : List En, (eCells l).length = l.length * 2
  | [] => rfl
  | e :: l => by
    have h := eCells_len l
    have e2 : eCells (e :: l) = .string (bA e.1) :: .int .i64 e.2 :: eCells l := rfl
    rw [e2, List.length_cons, List.length_cons, h, List.length_cons]
    omega
theorem eCells_app (a b : List En) : eCells (a ++ b) = eCells a ++ eCells b := by simp [eCells]
theorem eCells_take (l : List En) (k : Nat) : (eCells l).take (k * 2) = eCells (l.take k) := by
  by_cases h : k ≤ l.length
  · have e : eCells l = eCells (l.take k) ++ eCells (l.drop k) := by rw [← eCells_app, List.take_append_drop]
    have hl : (eCells (l.take k)).length = k * 2 := by rw [eCells_len, List.length_take, Nat.min_eq_left h]
    rw [e, ← hl, List.take_left]
  · rw [List.take_of_length_le (by rw [eCells_len]; omega), List.take_of_length_le (by omega)]
theorem eCells_drop (l : List En) (k : Nat) : (eCells l).drop (k * 2) = eCells (l.drop k) := by
  by_cases h : k ≤ l.length
  · have e : eCells l = eCells (l.take k) ++ eCells (l.drop k) := by rw [← eCells_app, List.take_append_drop]
    have hl : (eCells (l.take k)).length = k * 2 := by rw [eCells_len, List.length_take, Nat.min_eq_left h]
    rw [e, ← hl, List.drop_left]
  · rw [List.drop_eq_nil_of_le (by rw [eCells_len]; omega), List.drop_eq_nil_of_le (by omega)]
    rfl
theorem eCells_at : ∀ (l : List En) (k : Nat) (e : En), l[k]? = some e → (eCells l)[k * 2]? = some (.string (bA e.1)) ∧ (eCells l)[k * 2 + 1]? = some (.int .i64 e.2)
  | [], k, f, h => by simp at h
  | x :: l, 0, f, h => by
    simp at h
    subst h
    exact ⟨rfl, rfl⟩
  | x :: l, k + 1, f, h => by
    have := eCells_at l k f (by simpa using h)
    rw [show (k + 1) * 2 = k * 2 + 2 by omega]
    exact this
theorem eCells_one (l : List En) : ∀ u ∈ eCells l, u.oneCell' = true := by
  intro u hu
  rw [eCells, List.mem_flatMap] at hu
  obtain ⟨e, -, hu⟩ := hu
  simp only [List.mem_cons, List.mem_nil_iff, or_false] at hu
  rcases hu with rfl | rfl <;> rfl
theorem bCells_one (l : List UInt8) : ∀ u ∈ bCells l, u.oneCell' = true := by
  intro u hu
  rw [bCells, List.mem_map] at hu
  obtain ⟨s, _, rfl⟩ := hu
  rfl
theorem bCells_len (l : List UInt8) : (bCells l).length = l.length := by simp [bCells]
theorem bCells_at (l : List UInt8) (k : Nat) (b : UInt8) (h : l[k]? = some b) : (bCells l)[k]? = some (.int .u8 (co b)) := by simp [bCells, h]
theorem iCells_at (l : List Int) (k : Nat) (n : Int) (h : l[k]? = some n) : (iCells l)[k]? = some (.int .i64 n) := by simp [iCells, h]
theorem iCells_one (l : List Int) : ∀ u ∈ iCells l, u.oneCell' = true := by
  intro u hu
  rw [iCells, List.mem_map] at hu
  obtain ⟨s, _, rfl⟩ := hu
  rfl
theorem iCells_snoc (l : List Int) (n : Int) : iCells l ++ [.int .i64 n] = iCells (l ++ [n]) := by simp [iCells]

def EntsR (w : World) (v : Value) (l : List En) : Prop := ∃ A c, v = .slice A l.length c ∧ ∀ (k : Nat) (e : En), l[k]? = some e → ∃ ad : Addr, A = some ad ∧
  w.cell? (ad.add (k * 2)) = some (.string (bA e.1)) ∧ w.cell? ⟨(ad.add (k * 2)).block, (ad.add (k * 2)).off + 1, none⟩ = some (.int .i64 e.2)
def IntsR (w : World) (v : Value) (l : List Int) : Prop := ∃ A c, v = .slice A l.length c ∧ ∀ (k : Nat) (n : Int), l[k]? = some n → ∃ ad : Addr, A = some ad ∧ w.cell? (ad.add k) = some (.int .i64 n)
theorem EntsR.below {w w' : World} {v : Value} {l : List En} (h : EntsR w v l) (hb : Below w.heap.size w w') : EntsR w' v l := by
  obtain ⟨A, c, hv, hc⟩ := h
  refine ⟨A, c, hv, fun k a hk => ?_⟩
  obtain ⟨ad, hA, h0, h1⟩ := hc k a hk
  exact ⟨ad, hA, bc hb h0, bc hb h1⟩
theorem IntsR.below {w w' : World} {v : Value} {l : List Int} (h : IntsR w v l) (hb : Below w.heap.size w w') : IntsR w' v l := by
  obtain ⟨A, c, hv, hc⟩ := h
  refine ⟨A, c, hv, fun k a hk => ?_⟩
  obtain ⟨ad, hA, h0⟩ := hc k a hk
  exact ⟨ad, hA, bc hb h0⟩
theorem EntsR.nil (w : World) : EntsR w (.slice none 0 0) [] := ⟨none, 0, rfl, fun k s h => by simp at h⟩
theorem IntsR.nil (w : World) : IntsR w (.slice none 0 0) [] := ⟨none, 0, rfl, fun k s h => by simp at h⟩
theorem BytesR.nil (w : World) : BytesR w (.slice none 0 0) [] := ⟨none, 0, rfl, fun k s h => by simp at h⟩
theorem IntsR.of_own {w : World} {B : Nat} {e : TypeId} {v : Value} {l : List Int} (h : w.ownsRow B e 1 v l.length (iCells l)) : IntsR w v l := by
  rcases h.2 with ⟨rfl, hn⟩ | ⟨g, cap, cur, rfl, _⟩
  · have : l = [] := List.eq_nil_of_length_eq_zero hn
    subst this
    exact IntsR.nil w
  · refine ⟨some ⟨g, 0, none⟩, cap, rfl, fun k a hk => ⟨_, rfl, ?_⟩⟩
    rw [add_lit]
    exact row_at h _ _ (iCells_at l k a hk)
theorem EntsR.of_blk {w : World} {g : Nat} {t : TypeId} {cs : Array Value} {l : List En} {n : Nat} (c : Nat) (hn : l.length = n) (h : Blk w g t cs) (hc : cs.toList.take (n * 2) = eCells l) : EntsR w (.slice (some ⟨g, 0, none⟩) n c) l := by
  subst hn
  refine ⟨_, c, rfl, fun k e hk => ⟨_, rfl, ?_⟩⟩
  have hlt : k < l.length := (List.getElem?_eq_some_iff.1 hk).1
  obtain ⟨h0, h1⟩ := eCells_at l k e hk
  have key : ∀ j u, j < l.length * 2 → (eCells l)[j]? = some u → w.cell? ⟨g, j, none⟩ = some u := by
    intro j u hj hu
    rw [h.cell j, ← Array.getElem?_toList, ← hu, ← hc, List.getElem?_take, if_pos hj]
  rw [add_lit]
  exact ⟨key (k * 2) _ (by omega) h0, key (k * 2 + 1) _ (by omega) h1⟩
theorem BytesR.of_blk {w : World} {g : Nat} {t : TypeId} {l : List UInt8} {n : Nat} (c : Nat) (hn : l.length = n) (h : Blk w g t (bCells l).toArray) : BytesR w (.slice (some ⟨g, 0, none⟩) n c) l := by
  subst hn
  refine ⟨_, c, rfl, fun k b hk => ⟨_, rfl, ?_⟩⟩
  rw [add_lit, h.cell k, List.getElem?_toArray]
  exact bCells_at l k b hk
def EntsX (w : World) (B : Nat) (v : Value) (l : List En) : Prop := (v = .slice none 0 0 ∧ l = []) ∨ ∃ g, B ≤ g ∧ v = .slice (some ⟨g, 0, none⟩) l.length l.length ∧ 0 < l.length ∧ Blk w g 126 (eCells l).toArray
def BytesX (w : World) (B : Nat) (v : Value) (l : List UInt8) : Prop := (v = .slice none 0 0 ∧ l = []) ∨ ∃ g, B ≤ g ∧ v = .slice (some ⟨g, 0, none⟩) l.length l.length ∧ Blk w g 5 (bCells l).toArray
theorem EntsX.ents {w : World} {B : Nat} {v : Value} {l : List En} (h : EntsX w B v l) : EntsR w v l := by
  rcases h with ⟨rfl, rfl⟩ | ⟨g, -, rfl, -, h⟩
  · exact EntsR.nil w
  · exact EntsR.of_blk _ rfl h (List.take_of_length_le (by rw [eCells_len]; exact Nat.le_refl _))
theorem BytesX.bytes {w : World} {B : Nat} {v : Value} {l : List UInt8} (h : BytesX w B v l) : BytesR w v l := by
  rcases h with ⟨rfl, rfl⟩ | ⟨g, -, rfl, h⟩
  · exact BytesR.nil w
  · exact BytesR.of_blk _ rfl h
theorem EntsX.below {w w' : World} {B : Nat} {v : Value} {l : List En} (h : EntsX w B v l) (hb : Below w.heap.size w w') : EntsX w' B v l := by
  rcases h with h | ⟨g, h1, h2, h3, h4⟩
  · exact .inl h
  · exact .inr ⟨g, h1, h2, h3, h4.below hb⟩
theorem BytesX.below {w w' : World} {B : Nat} {v : Value} {l : List UInt8} (h : BytesX w B v l) (hb : Below w.heap.size w w') : BytesX w' B v l := by
  rcases h with h | ⟨g, h1, h2, h3⟩
  · exact .inl h
  · exact .inr ⟨g, h1, h2, h3.below hb⟩
theorem BytesX.kept {w w' : World} {B g : Nat} {v : Value} {l : List UInt8} {cs : Array Value} {t : TypeId} (h : BytesX w B v l) (hk : Blk w g t cs) (ht : t ≠ 5) (hg : w.grownBy w' (some g)) : BytesX w' B v l := by
  rcases h with h | ⟨g', h1, h2, h3⟩
  · exact .inl h
  · refine .inr ⟨g', h1, h2, h3.kept hg ?_⟩
    intro e
    injection e with e
    subst e
    unfold Blk at hk h3
    rw [hk] at h3
    injection h3 with h3
    injection h3 with _ h3
    exact ht h3
def EntsT (w : World) (v : Value) (l : List En) : Prop := EntsR w v l ∧ ∀ (ad : Addr) (n c : Nat), v = .slice (some ad) n c → ∃ cs, Blk w ad.block 126 cs
theorem EntsT.kept {w w' : World} {g : Nat} {v : Value} {l : List En} {cs : Array Value} {t : TypeId} (h : EntsT w v l) (hk : Blk w g t cs) (ht : t ≠ 126) (hg : w.grownBy w' (some g)) : EntsT w' v l := by
  obtain ⟨⟨A, c, rfl, hc⟩, h2⟩ := h
  have hne : ∀ ad : Addr, A = some ad → ad.block ≠ g := by
    intro ad hA e
    subst hA
    obtain ⟨cs', hb⟩ := h2 ad _ _ rfl
    rw [e] at hb
    unfold Blk at hk hb
    rw [hk] at hb
    injection hb with hb
    injection hb with _ hb
    exact ht hb
  refine ⟨⟨A, c, rfl, fun k e hk' => ?_⟩, fun ad n' c' hv => ?_⟩
  · obtain ⟨ad, rfl, h0, h1⟩ := hc k e hk'
    have e1 : (ad.add (k * 2)).block = ad.block := by unfold Addr.add; split <;> rfl
    have key : ∀ (p : Addr) (u : Value), p.block = ad.block → w.cell? p = some u → w'.cell? p = some u := by
      intro p u hp hu
      rw [← hu]
      exact World.cell?_of_block (hg.block p.block (World.block_lt_of_cell? _ _ hu) (by rw [hp]; intro q; injection q with q; exact hne ad rfl q))
    exact ⟨ad, rfl, key _ _ e1 h0, key _ _ e1 h1⟩
  · obtain ⟨cs', hb⟩ := h2 ad n' c' hv
    injection hv with hA
    exact ⟨cs', hb.kept hg (fun e => hne ad hA (by injection e))⟩
theorem EntsT.below {w w' : World} {v : Value} {l : List En} (h : EntsT w v l) (hb : Below w.heap.size w w') : EntsT w' v l :=
  ⟨h.1.below hb, fun ad n c hv => by obtain ⟨cs, hc⟩ := h.2 ad n c hv; exact ⟨cs, hc.below hb⟩⟩
theorem EntsT.nil (w : World) : EntsT w (.slice none 0 0) [] := ⟨EntsR.nil w, fun ad n c h => by injection h with h; cases h⟩
theorem ents_form {w : World} {v : Value} {l : List En} {n : Nat} (h : EntsR w v l) (hn : l.length = n) : ∃ A c, v = .slice A n c := by
  obtain ⟨A, c, rfl, -⟩ := h
  subst hn
  exact ⟨A, c, rfl⟩
theorem bytes_form {w : World} {v : Value} {l : List UInt8} {n : Nat} (h : BytesR w v l) (hn : l.length = n) : ∃ A c, v = .slice A n c := by
  obtain ⟨A, c, rfl, -⟩ := h
  subst hn
  exact ⟨A, c, rfl⟩
theorem ints_form {w : World} {v : Value} {l : List Int} {n : Nat} (h : IntsR w v l) (hn : l.length = n) : ∃ A c, v = .slice A n c := by
  obtain ⟨A, c, rfl, -⟩ := h
  subst hn
  exact ⟨A, c, rfl⟩
theorem ents_get {w : World} {A : Option Addr} {n c : Nat} {l : List En} (h : EntsR w (.slice A n c) l) {k : Nat} {e : En} (hk : l[k]? = some e) : ∃ ad : Addr, A = some ad ∧ w.cell? (ad.add (k * 2)) = some (.string (bA e.1)) ∧ w.cell? ⟨(ad.add (k * 2)).block, (ad.add (k * 2)).off + 1, none⟩ = some (.int .i64 e.2) := by
  obtain ⟨A', c', hv, hc⟩ := h
  injection hv with hA
  subst hA
  exact hc k e hk
theorem bytes_get {w : World} {A : Option Addr} {n c : Nat} {l : List UInt8} (h : BytesR w (.slice A n c) l) {k : Nat} {b : UInt8} (hk : l[k]? = some b) : ∃ ad : Addr, A = some ad ∧ w.cell? (ad.add k) = some (.int .u8 (co b)) := by
  obtain ⟨A', c', hv, hc⟩ := h
  injection hv with hA
  subst hA
  exact hc k b hk
theorem ints_get {w : World} {A : Option Addr} {n c : Nat} {l : List Int} (h : IntsR w (.slice A n c) l) {k : Nat} {b : Int} (hk : l[k]? = some b) : ∃ ad : Addr, A = some ad ∧ w.cell? (ad.add k) = some (.int .i64 b) := by
  obtain ⟨A', c', hv, hc⟩ := h
  injection hv with hA
  subst hA
  exact hc k b hk
theorem ints_len {w : World} {A : Option Addr} {n c : Nat} {l : List Int} (h : IntsR w (.slice A n c) l) : l.length = n := by
  obtain ⟨A', c', hv, -⟩ := h
  injection hv with _ h2
  exact h2.symm
theorem ents_src {w : World} {ad : Addr} {n c : Nat} {l : List En} (h : EntsR w (.slice (some ad) n c) l) : ∀ (j : Nat) (u : Value), (eCells l)[j]? = some u → w.cell? (ad.add j) = some u := by
  intro j u hj
  have hlt : j < l.length * 2 := by rw [← eCells_len]; exact (List.getElem?_eq_some_iff.1 hj).1
  obtain ⟨e, he⟩ : ∃ e, l[j / 2]? = some e := ⟨_, List.getElem?_eq_getElem (show j / 2 < l.length by omega)⟩
  obtain ⟨ad', hA, h0, h1⟩ := ents_get h he
  injection hA with hA
  subst hA
  obtain ⟨e0, e1⟩ := eCells_at l _ e he
  rcases Nat.mod_two_eq_zero_or_one j with hm | hm
  · rw [show j / 2 * 2 = j by omega] at h0 e0
    rw [e0] at hj
    injection hj with hj
    rw [← hj]
    exact h0
  · rw [show j / 2 * 2 + 1 = j by omega] at e1
    rw [e1] at hj
    injection hj with hj
    rw [← hj, ← h1]
    congr 1
    unfold Addr.add
    by_cases h0 : j / 2 * 2 = 0
    · rw [if_neg (show ¬ j = 0 by omega), if_pos h0]
      have : j = 1 := by omega
      subst this
      rfl
    · rw [if_neg (show ¬ j = 0 by omega), if_neg h0]
      show (⟨ad.block, ad.off + j, none⟩ : Addr) = ⟨ad.block, ad.off + j / 2 * 2 + 1, none⟩
      rw [show ad.off + j / 2 * 2 + 1 = ad.off + j by omega]
theorem bytes_src {w : World} {ad : Addr} {n c : Nat} {l : List UInt8} (h : BytesR w (.slice (some ad) n c) l) : ∀ (j : Nat) (u : Value), (bCells l)[j]? = some u → w.cell? (ad.add j) = some u := by
  intro j u hj
  have hlt : j < l.length := by rw [← bCells_len]; exact (List.getElem?_eq_some_iff.1 hj).1
  obtain ⟨b, hb⟩ : ∃ b, l[j]? = some b := ⟨_, List.getElem?_eq_getElem hlt⟩
  obtain ⟨ad', hA, h0⟩ := bytes_get h hb
  injection hA with hA
  subst hA
  rw [bCells_at l j b hb] at hj
  injection hj with hj
  rw [← hj]
  exact h0

def nmA (l : List Nm) : List ByteArray := l.map bA
theorem nmE_at {l : List En} {k : Nat} {e : En} (h : l[k]? = some e) : (nmE l)[k]? = some e.1 := by simp [nmE, h]
def nodeV (n : Nd) (vd ve : Value) : Value := .agg #[.int .i64 n.kind, .int .i64 n.mode, .int .i64 n.uid, .int .i64 n.gid, vd, ve, .string (bA n.target)]
def NdR (w : World) (v : Value) (n : Nd) : Prop := ∃ vd ve, v = nodeV n vd ve ∧ BytesR w vd n.data ∧ EntsR w ve n.ents
def NdT (w : World) (v : Value) (n : Nd) : Prop := ∃ vd ve, v = nodeV n vd ve ∧ BytesX w 0 vd n.data ∧ EntsT w ve n.ents
theorem NdT.nd {w : World} {v : Value} {n : Nd} (h : NdT w v n) : NdR w v n := by
  obtain ⟨vd, ve, h1, h2, h3⟩ := h
  exact ⟨vd, ve, h1, h2.bytes, h3.1⟩
theorem bA_list (l : List UInt8) : (bA l).toList = l := by rw [ByteArray.toList_eq]; rfl
end Go.Proofs.YtnkjaocmfhjnoaaGreat
