/-
  What is told of a tree, as plain mathematics. No condition.
-/
import Derived.Test.YtilepnepcamnaaaGreatBldR
namespace Go.Proofs.YtilepnepcamnaaaGreat
open Go Go.RowKit
set_option maxRecDepth 100000

/-- Where a number stands in a list; -1: nowhere. -/
def ixI (l : List Int) (n : Int) : Int := if n ∈ l then (l.idxOf n : Int) else -1
def rwN (n : Nd) (p : Int) (nm : Nm) : Rw := ⟨n.kind, n.mode, n.uid, n.gid, p, nm, n.data, n.target, 0⟩
def rwA (p : Int) (nm : Nm) (j : Int) : Rw := ⟨4, 0, 0, 0, p, nm, [], [], j⟩
abbrev Tl := List Int × List Rw
/-- One entry is told. -/
def tlE (t : List Nd) (p : Int) (s : Tl) (i : Int) (nm : Nm) : Tl := if i ∈ s.1 then (s.1, s.2 ++ [rwA p nm ((s.1.idxOf i : Int) + 1)]) else (s.1 ++ [i], s.2 ++ [rwN (tget t i) p nm])
/-- A directory's entries. -/
def tlD (t : List Nd) (k : Nat) (s : Tl) (l : List En) : Tl := l.foldl (fun s e => tlE t ((k : Int) + 1) s e.2 e.1) s
def tlS (t : List Nd) : Nat → Tl
  | 0 => tlE t 0 ([], []) 1 []
  | k + 1 => match (tlS t k).1[k]? with
    | some i => tlD t k (tlS t k) (tget t i).ents
    | none => tlS t k
def tlT (t : List Nd) : List Rw := (tlS t 24).2
theorem tlS_go {t : List Nd} {k : Nat} {i : Int} (h : (tlS t k).1[k]? = some i) : tlS t (k + 1) = tlD t k (tlS t k) (tget t i).ents := by
  rw [tlS, h]
theorem tlS_halt {t : List Nd} {k : Nat} (h : (tlS t k).1.length ≤ k) : tlS t (k + 1) = tlS t k := by
  rw [tlS, List.getElem?_eq_none h]
theorem tlS_stay {t : List Nd} {k : Nat} (h : (tlS t k).1.length ≤ k) : ∀ j, tlS t (k + j) = tlS t k
  | 0 => rfl
  | j + 1 => by
    have ih := tlS_stay h j
    rw [← Nat.add_assoc, tlS_halt (by rw [ih]; omega), ih]
theorem tlD_snoc {t : List Nd} {k j : Nat} {s : Tl} {l : List En} {e : En} (h : l[j]? = some e) : tlD t k s (l.take (j + 1)) = tlE t ((k : Int) + 1) (tlD t k s (l.take j)) e.2 e.1 := by
  unfold tlD
  rw [List.take_add_one, h, List.foldl_append]
  rfl
/-- What was told stands for nodes, each once. -/
def okS (t : List Nd) (s : Tl) : Prop := s.1.Nodup ∧ ∀ i ∈ s.1, tis t i = true
theorem okS_E {t : List Nd} {s : Tl} {p i : Int} {nm : Nm} (h : okS t s) (hi : tis t i = true) : okS t (tlE t p s i nm) := by
  unfold tlE
  split
  · exact h
  · rename_i q
    refine ⟨List.nodup_append.2 ⟨h.1, List.nodup_cons.2 ⟨List.not_mem_nil, List.nodup_nil⟩, fun a ha b hb => ?_⟩, fun j hj => ?_⟩
    · rw [List.mem_singleton] at hb
      subst hb
      rintro rfl
      exact q ha
    · rcases List.mem_append.1 hj with hj | hj
      · exact h.2 j hj
      · rw [List.mem_singleton] at hj
        rw [hj]; exact hi
theorem okS_D {t : List Nd} {k : Nat} : ∀ {l : List En} {s : Tl}, okS t s → (∀ e ∈ l, tis t e.2 = true) → okS t (tlD t k s l)
  | [], _, h, _ => h
  | e :: l, _, h, hl => okS_D (l := l) (okS_E h (hl e (List.mem_cons_self ..))) (fun f hf => hl f (List.mem_cons_of_mem _ hf))
/-- In a tree each entry has a node. -/
theorem all_ents {t : List Nd} (ho : okT t) (hl : t.length ≤ 24) (h : allT t []) (i : Int) (e : En) (he : e ∈ (tget t i).ents) : tis t e.2 = true := by
  by_cases q : 1 ≤ i ∧ i ≤ t.length
  · have h1 : i = (((i - 1).toNat : Nat) : Int) + 1 := by omega
    have h2 := h.2.2 (i - 1).toNat (by omega)
    rw [← h1] at h2
    unfold nodeT at h2
    by_cases k2 : (tget t i).kind = 2
    · rw [if_pos k2, Bool.and_eq_true] at h2
      exact List.all_eq_true.1 h2.1 e he
    · have hm : tget t i ∈ t := by rw [h1, tget_at (by omega)]; exact List.getElem_mem _
      rw [ok_ents ho hm k2] at he
      cases he
  · rw [tget_out q] at he; cases he
theorem okS_all {t : List Nd} (ho : okT t) (hl : t.length ≤ 24) (h : allT t []) : ∀ k, okS t (tlS t k)
  | 0 => okS_E ⟨List.nodup_nil, fun i hi => by cases hi⟩ (by unfold tis; rw [h.1]; rfl)
  | k + 1 => by
    have ih := okS_all ho hl h k
    rw [tlS]
    split
    · exact okS_D ih (fun e he => all_ents ho hl h _ e he)
    · exact ih
theorem okS_len {t : List Nd} {s : Tl} (h : okS t s) : s.1.length ≤ t.length := pig t.length s.1 h.1 (fun x hx => tis_in (h.2 x hx))
/-- How much is told. -/
theorem tlE_len (t : List Nd) (p : Int) (s : Tl) (i : Int) (nm : Nm) : (tlE t p s i nm).2.length = s.2.length + 1 ∧ s.1.length ≤ (tlE t p s i nm).1.length := by
  unfold tlE
  split
  · exact ⟨by rw [List.length_append]; rfl, Nat.le_refl _⟩
  · exact ⟨by rw [List.length_append]; rfl, by rw [List.length_append]; omega⟩
theorem tlD_len (t : List Nd) (k : Nat) : ∀ (l : List En) (s : Tl), (tlD t k s l).2.length = s.2.length + l.length ∧ s.1.length ≤ (tlD t k s l).1.length
  | [], s => ⟨rfl, Nat.le_refl _⟩
  | e :: l, s => by
    have ih := tlD_len t k l (tlE t ((k : Int) + 1) s e.2 e.1)
    have h := tlE_len t ((k : Int) + 1) s e.2 e.1
    have e1 : tlD t k s (e :: l) = tlD t k (tlE t ((k : Int) + 1) s e.2 e.1) l := rfl
    rw [e1, List.length_cons]
    exact ⟨by omega, by omega⟩
theorem ents_le {t : List Nd} (ho : okT t) (i : Int) : (tget t i).ents.length ≤ 8 := by
  rcases ok_tget ho i with q | q
  · rw [q]; exact Nat.zero_le _
  · rcases q.2 with q | q | q
    · rw [q.2.1]; exact Nat.zero_le _
    · exact q.2.2.2.2.2
    · rw [q.2.2.1]; exact Nat.zero_le _
theorem tlS_len {t : List Nd} (ho : okT t) : ∀ k, (tlS t k).2.length ≤ 1 + 8 * k
  | 0 => by rw [tlS, (tlE_len ..).1]; exact Nat.le_refl _
  | k + 1 => by
    have ih := tlS_len ho k
    rw [tlS]
    split
    · rename_i i hi
      rw [(tlD_len ..).1]
      have := ents_le ho i
      omega
    · omega
theorem tlS_grow (t : List Nd) (k : Nat) : (tlS t k).1.length ≤ (tlS t (k + 1)).1.length := by
  rw [tlS]
  split
  · exact (tlD_len ..).2
  · exact Nat.le_refl _
end Go.Proofs.YtilepnepcamnaaaGreat
