/-
  What the change back is called where one is known: plain mathematics. The conditions are said at each. What a table's change is called, where an entry is moved: plain mathematics. The conditions are said at each. What a table's change is called as package change has it, kind by kind: it is what the reference has. Plain mathematics; the conditions are said at each. How a change, its entries and what became of numbers lie in memory. The conditions are said at each.
-/
import Derived.Test.YtnkjaocmfhjnoaaGreatE5
import Derived.Test.YtnkjaocmfhjnoaaGreatE6
import Derived.Test.YtnkjaocmfhjnoaaGreatE9
import Derived.Test.YtnkjaocmfhjnoaaGreatE16
namespace Go.Proofs.YtnkjaocmfhjnoaaGreat
open Go Go.RowKit
set_option maxRecDepth 100000

theorem nz_ok {t : List Nd} (h : okT t) : Nz t := fun i q => by
  by_cases hi : tis t i = true
  · unfold tis at hi
    rw [q] at hi
    exact absurd hi (by decide)
  · exact tis_not h (by simpa using hi)
theorem dif_parts {t u : List Nd} (ht : okT t) (hu : okT u) : ((difT t u).lost ≠ [] → 1 ≤ (difT t u).ents) ∧ ((difT t u).won ≠ [] → 1 ≤ (difT t u).ents) ∧ (∀ e ∈ (difT t u).lost, 1 ≤ e.node) ∧ (∀ e ∈ (difT t u).won, 1 ≤ e.node) ∧ (∀ i ∈ (difT t u).new, 1 ≤ i) := by
  have key : ∀ (l : List Int) (f : Int → List Ech), l.flatMap f ≠ [] → 1 ≤ l.length := fun l f h => by
    cases l with
    | nil => exact absurd rfl h
    | cons x l => simp
  refine ⟨fun h => key _ _ h, fun h => key _ _ h, fun e he => ?_, fun e he => ?_, fun i hi => (mem_idx24.1 (List.mem_filter.1 hi).1).1⟩
  · obtain ⟨i, -, h2⟩ := List.mem_flatMap.1 he
    obtain ⟨x, h3, rfl⟩ := List.mem_map.1 h2
    exact ok_pos ht (List.mem_filter.1 h3).1
  · obtain ⟨i, -, h2⟩ := List.mem_flatMap.1 he
    obtain ⟨x, h3, rfl⟩ := List.mem_map.1 h2
    exact ok_pos hu (List.mem_filter.1 h3).1
theorem one_of {α : Type} {l : List α} (h : l.length = 1) : ∃ a, l = [a] := by
  match l, h with
  | [a], _ => exact ⟨a, rfl⟩
theorem back_alone {t u : List Nd} (ht : okT t) (hu : okT u) (h : (ofC t u).kind = 1 ∨ (ofC t u).kind = 2) : ofC u t = ofC t u := by
  unfold ofC at h ⊢
  rw [dif_back (nz_ok ht) (nz_ok hu)]
  generalize difT t u = d at h ⊢
  unfold ofD at h ⊢
  by_cases q : d.els.length = 1 ∧ d.new.length + d.gone.length + d.ents = 0
  · rw [if_pos q, if_pos (show d.back.els.length = 1 ∧ d.back.new.length + d.back.gone.length + d.back.ents = 0 from ⟨q.1, by show d.gone.length + d.new.length + d.ents = 0; omega⟩)]
    exact alone_back _ _ _
  · exfalso
    rw [if_neg q] at h
    split at h
    · rcases h with h | h <;> exact absurd h (by decide)
    · split at h
      · rcases h with h | h <;> exact absurd h (by decide)
      · split at h
        · split at h
          · rcases h with h | h <;> exact absurd (show (3 : Int) = _ from h) (by decide)
          · rcases h with h | h <;> exact absurd h (by decide)
        · split at h
          · rcases h with h | h <;> exact absurd (show (6 : Int) = _ from h) (by decide)
          · rcases ents_kind d with z | z | z <;> rw [z] at h <;> rcases h with h | h <;> exact absurd h (by decide)
theorem back_make {t u : List Nd} (ht : okT t) (hu : okT u) (h : (ofC t u).kind = 3) : ofC u t = ⟨4, (ofC t u).node, (ofC t u).dir, (ofC t u).name, 0, [], 0⟩ := by
  obtain ⟨-, p2, -, -, p5⟩ := dif_parts ht hu
  unfold ofC at h ⊢
  rw [dif_back (nz_ok ht) (nz_ok hu)]
  generalize difT t u = d at h p2 p5 ⊢
  obtain ⟨new, gone, els, ents, lost, won⟩ := d
  have key : els = [] ∧ new ≠ [] ∧ new.length = 1 ∧ gone = [] ∧ lost = [] ∧ won.length = 1 ∧ (won.headD Ech.zero).node = new.headD 0 := by
    unfold ofD at h
    split at h
    · exfalso
      rcases alone_kind (els.headD 0) (tget t (els.headD 0)) (tget u (els.headD 0)) with q | q | q <;> rw [q] at h
      · exact absurd (show (1 : Int) = 3 from h) (by decide)
      · exact absurd (show (2 : Int) = 3 from h) (by decide)
      · exact absurd h (by decide)
    · split at h
      · exact absurd h (by decide)
      · rename_i h2
        have hE : els = [] := Classical.byContradiction h2
        split at h
        · exact absurd h (by decide)
        · split at h
          · rename_i h4
            split at h
            · rename_i h5
              exact ⟨hE, h4, h5⟩
            · exact absurd h (by decide)
          · split at h
            · exact absurd (show (6 : Int) = 3 from h) (by decide)
            · exfalso
              rcases ents_kind ⟨new, gone, els, ents, lost, won⟩ with z | z | z <;> rw [z] at h <;> exact absurd h (by decide)
  obtain ⟨rfl, -, h2, rfl, rfl, h5, h6⟩ := key
  obtain ⟨i, rfl⟩ := one_of h2
  obtain ⟨w, rfl⟩ := one_of h5
  have hw : w.node = i := h6
  have hi : 1 ≤ i := p5 i (List.mem_singleton.2 rfl)
  have hen : 1 ≤ ents := p2 (by simp)
  have ho : onlyG [i] w.node = true := by
    unfold onlyG
    rw [hw, toB_true rfl, decide_eq_true (by omega : 0 < i)]
    rfl
  have e1 : ofD t u ⟨[i], [], [], ents, [], [w]⟩ = ⟨3, i, w.dir, w.name, 0, [], 0⟩ := by
    unfold ofD
    simp [hw]
  rw [e1]
  show ofD u t ⟨[], [i], [], ents, [w], []⟩ = _
  have e2 : ofD u t ⟨[], [i], [], ents, [w], []⟩ = entsC ⟨[], [i], [], ents, [w], []⟩ := by
    unfold ofD
    have hne : ¬ ents = 0 := by omega
    simp [hne]
  rw [e2]
  show (if onlyG [i] w.node = true then (⟨4, w.node, w.dir, w.name, 0, [], 0⟩ : Chg) else Chg.k 7) = _
  rw [if_pos ho, hw]
theorem back_move {t u : List Nd} (ht : okT t) (hu : okT u) (h : (ofC t u).kind = 5) (h0 : (ofC t u).over = 0) : ofC u t = ⟨5, (ofC t u).node, (ofC t u).to, (ofC t u).other, (ofC t u).dir, (ofC t u).name, 0⟩ := by
  obtain ⟨p1, -, p3, p4, -⟩ := dif_parts ht hu
  unfold ofC at h h0 ⊢
  rw [dif_back (nz_ok ht) (nz_ok hu)]
  generalize difT t u = d at h h0 p1 p3 p4 ⊢
  obtain ⟨new, gone, els, ents, lost, won⟩ := d
  have key : els = [] ∧ new = [] ∧ ¬ (new.length + gone.length + ents = 0) ∧ ¬ (gone.length = 1 ∧ ents = 0) ∧ (entsC ⟨new, gone, els, ents, lost, won⟩).kind = 5 ∧ ofD t u ⟨new, gone, els, ents, lost, won⟩ = entsC ⟨new, gone, els, ents, lost, won⟩ := by
    unfold ofD at h ⊢
    split at h
    · exfalso
      rcases alone_kind (els.headD 0) (tget t (els.headD 0)) (tget u (els.headD 0)) with q | q | q <;> rw [q] at h
      · exact absurd (show (1 : Int) = 5 from h) (by decide)
      · exact absurd (show (2 : Int) = 5 from h) (by decide)
      · exact absurd h (by decide)
    · rename_i h1
      split at h
      · exact absurd h (by decide)
      · rename_i h2
        split at h
        · exact absurd h (by decide)
        · rename_i h3
          split at h
          · exfalso
            split at h
            · exact absurd (show (3 : Int) = 5 from h) (by decide)
            · exact absurd h (by decide)
          · rename_i h4
            split at h
            · exact absurd (show (6 : Int) = 5 from h) (by decide)
            · rename_i h5
              refine ⟨Classical.byContradiction h2, Classical.byContradiction h4, h3, h5, h, ?_⟩
              rw [if_neg h1, if_neg h2, if_neg h3, if_neg h4, if_neg h5]
  obtain ⟨rfl, rfl, -, -, k5, ke⟩ := key
  rw [ke] at h0 ⊢
  -- the lists
  have hl : ∃ a w, lost = [a] ∧ won = [w] ∧ moveC gone w a Ech.zero = ⟨5, w.node, a.dir, a.name, w.dir, w.name, 0⟩ := by
    unfold entsC at k5 h0
    split at k5
    · exfalso
      split at k5
      · exact absurd (show (4 : Int) = 5 from k5) (by decide)
      · exact absurd k5 (by decide)
    · rename_i a w e1 e2
      refine ⟨a, w, e1, e2, ?_⟩
      rcases move_kind gone w a Ech.zero with q | q
      · have k6 : (moveC gone w a Ech.zero).kind = 5 := k5
        rw [q] at k6
        exact absurd k6 (by decide)
      · exact q
    · rename_i a b w e1 e2
      exfalso
      have e1' : lost = [a, b] := e1
      have e2' : won = [w] := e2
      subst e1' e2'
      have ha := p3 a (by simp)
      have hb := p3 b (by simp)
      have hm : ∀ x y : Ech, (moveC gone w x y).kind = 5 → (moveC gone w x y).over = y.node := fun x y hk => by
        rcases move_kind gone w x y with q | q
        · rw [q] at hk
          exact absurd hk (by decide)
        · rw [q]
      have h0' : (if (moveC gone w a b).kind = 5 then moveC gone w a b else moveC gone w b a).over = 0 := h0
      split at k5
      · rename_i q
        rw [if_pos q, hm _ _ q] at h0'
        omega
      · rename_i q
        rw [if_neg q, hm _ _ k5] at h0'
        omega
    · exact absurd k5 (by decide)
  obtain ⟨a, w, rfl, rfl, hm⟩ := hl
  have hent : 1 ≤ ents := p1 (by simp)
  have hwn := p4 w (by simp)
  have hc : a.node = w.node ∧ onlyG gone 0 = true := by
    have hm2 := hm
    unfold moveC at hm2
    split at hm2
    · exact absurd (show (7 : Int) = 5 from congrArg Chg.kind hm2) (by decide)
    · rename_i q
      refine ⟨Classical.byContradiction (fun z => q (.inl z)), ?_⟩
      cases ho : onlyG gone 0 with
      | true => rfl
      | false => exact absurd (.inr (.inr ho)) q
  have hg : gone = [] := by
    have := hc.2
    unfold onlyG at this
    simpa using this
  subst hg
  have e1 : entsC ⟨[], [], [], ents, [a], [w]⟩ = ⟨5, w.node, a.dir, a.name, w.dir, w.name, 0⟩ := hm
  rw [e1]
  have e2 : ofD u t ⟨[], [], [], ents, [w], [a]⟩ = entsC ⟨[], [], [], ents, [w], [a]⟩ := by
    unfold ofD
    have hne : ¬ ents = 0 := by omega
    simp [hne]
  show ofD u t ⟨[], [], [], ents, [w], [a]⟩ = _
  rw [e2]
  show moveC [] a w Ech.zero = _
  unfold moveC
  rw [if_neg (fun q => by rcases q with q | q | q; exact q hc.1.symm; exact absurd q.1 (by decide); exact absurd q (by decide)), hc.1]
  rfl
end Go.Proofs.YtnkjaocmfhjnoaaGreat
namespace Go.Proofs.YtnkjaocmfhjnoaaGreat
open Go Go.RowKit
set_option maxRecDepth 100000

theorem filter_sing {l : List En} (hn : l.Nodup) {p : En → Bool} {x : En} (hx : x ∈ l) (hp : ∀ e ∈ l, p e = true ↔ e = x) : l.filter p = [x] := by
  induction l with
  | nil => cases hx
  | cons z l ih =>
    obtain ⟨h1, h2⟩ := List.nodup_cons.1 hn
    by_cases e : z = x
    · subst e
      rw [List.filter_cons_of_pos ((hp z (List.mem_cons_self ..)).2 rfl), List.filter_eq_nil_iff.2 (fun y hy q => h1 (by rw [← (hp y (List.mem_cons_of_mem _ hy)).1 q]; exact hy))]
    · rw [List.filter_cons_of_neg (fun q => e ((hp z (List.mem_cons_self ..)).1 q))]
      exact ih h2 ((List.mem_cons.1 hx).resolve_left (fun q => e q.symm)) (fun y hy => hp y (List.mem_cons_of_mem _ hy))
theorem filter_pair {l : List En} (hn : l.Nodup) {p : En → Bool} {x y : En} (hxy : x ≠ y) (hx : x ∈ l) (hy : y ∈ l) (hp : ∀ e ∈ l, p e = true ↔ e = x ∨ e = y) : l.filter p = [x, y] ∨ l.filter p = [y, x] := by
  induction l with
  | nil => cases hx
  | cons z l ih =>
    obtain ⟨h1, h2⟩ := List.nodup_cons.1 hn
    have hl : ∀ e ∈ l, p e = true ↔ e = x ∨ e = y := fun e he => hp e (List.mem_cons_of_mem _ he)
    by_cases e : z = x
    · subst e
      left
      rw [List.filter_cons_of_pos ((hp z (List.mem_cons_self ..)).2 (.inl rfl)), filter_sing h2 ((List.mem_cons.1 hy).resolve_left (fun q => hxy q.symm)) (fun e he => ⟨fun q => ((hl e he).1 q).resolve_left (fun r => h1 (by rw [← r]; exact he)), fun q => (hl e he).2 (.inr q)⟩)]
    · by_cases e2 : z = y
      · subst e2
        right
        rw [List.filter_cons_of_pos ((hp z (List.mem_cons_self ..)).2 (.inr rfl)), filter_sing h2 ((List.mem_cons.1 hx).resolve_left hxy) (fun e he => ⟨fun q => ((hl e he).1 q).resolve_right (fun r => h1 (by rw [← r]; exact he)), fun q => (hl e he).2 (.inl q)⟩)]
      · rw [List.filter_cons_of_neg (fun q => ((hp z (List.mem_cons_self ..)).1 q).elim e e2)]
        exact ih h2 ((List.mem_cons.1 hx).resolve_left (fun q => e q.symm)) ((List.mem_cons.1 hy).resolve_left (fun q => e2 q.symm)) hl
theorem rise_ents {l : List En} (h : rise (nmE l)) : l.Nodup := by
  have h1 := rise_nodup h
  unfold nmE at h1
  exact (List.pairwise_map.1 h1).imp (fun {a b} hab q => hab (by rw [q]))
theorem ent_iff {l : List En} (h : rise (nmE l)) (hp : ∀ e ∈ l, 1 ≤ e.2) (e : En) : e ∈ l ↔ (fnd l e.1 = e.2 ∧ 1 ≤ e.2) := by
  constructor
  · intro he
    exact ⟨fnd_at h he, hp e he⟩
  · rintro ⟨h1, h2⟩
    obtain ⟨y, hy, h3, h4⟩ := fnd_some (fnd_mem (l := l) (n := e.1) (by omega))
    have e1 : y = e := Prod.ext h3 (h4.symm.trans h1)
    rw [← e1]
    exact hy
theorem less_eq (d : Int) (a b : Nd) : lessE d a b = (a.ents.filter (fun e => !toB (e ∈ b.ents))).map (fun e => ⟨d, e.1, e.2⟩) := rfl
theorem not_toB {p : Prop} : (!toB p) = true ↔ ¬ p := by
  rw [Bool.not_eq_true', ← Bool.not_eq_true, toB_iff]
theorem ents_move {g : List Int} {m : Nat} {L : List Ech} {d i D k : Int} {n N : Nm} (hki : k ≠ i) (h : (k = 0 ∧ g = [] ∧ L = [⟨d, n, i⟩]) ∨ (1 ≤ k ∧ (g = [] ∨ g = [k]) ∧ (L = [⟨d, n, i⟩, ⟨D, N, k⟩] ∨ L = [⟨D, N, k⟩, ⟨d, n, i⟩]))) :
    entsC ⟨[], g, [], m, L, [⟨D, N, i⟩]⟩ = ⟨5, i, d, n, D, N, k⟩ := by
  rcases h with ⟨rfl, rfl, rfl⟩ | ⟨hk, hg, hL⟩
  · show moveC [] ⟨D, N, i⟩ ⟨d, n, i⟩ Ech.zero = _
    unfold moveC
    rw [if_neg (fun q => by rcases q with q | q | q; exact q rfl; exact absurd q.1 (by decide); exact absurd q (by decide))]
    rfl
  · have ho : onlyG g k = true := by
      rcases hg with rfl | rfl
      · rfl
      · unfold onlyG
        rw [toB_true rfl, decide_eq_true (by omega : 0 < k)]
        rfl
    have hM : moveC g ⟨D, N, i⟩ ⟨d, n, i⟩ ⟨D, N, k⟩ = ⟨5, i, d, n, D, N, k⟩ := by
      unfold moveC
      rw [if_neg (fun q => by
        rcases q with q | q | q
        · exact q rfl
        · rcases q.2 with z | z | z
          · exact z rfl
          · exact z rfl
          · exact hki z
        · rw [ho] at q
          cases q)]
    rcases hL with rfl | rfl
    · show (if (moveC g ⟨D, N, i⟩ ⟨d, n, i⟩ ⟨D, N, k⟩).kind = 5 then moveC g ⟨D, N, i⟩ ⟨d, n, i⟩ ⟨D, N, k⟩ else _) = _
      rw [hM, if_pos rfl]
    · have hF : (moveC g ⟨D, N, i⟩ ⟨D, N, k⟩ ⟨d, n, i⟩).kind = 7 := by
        unfold moveC
        rw [if_pos (.inl (show k ≠ i from hki))]
        rfl
      show (if (moveC g ⟨D, N, i⟩ ⟨D, N, k⟩ ⟨d, n, i⟩).kind = 5 then _ else moveC g ⟨D, N, i⟩ ⟨d, n, i⟩ ⟨D, N, k⟩) = _
      rw [hF, if_neg (by decide), hM]
theorem of_ents {t u : List Nd} {g : List Int} {m : Nat} {L W : List Ech} (hm : 1 ≤ m) (h : difT t u = ⟨[], g, [], m, L, W⟩) : ofC t u = entsC ⟨[], g, [], m, L, W⟩ := by
  unfold ofC
  rw [h]
  unfold ofD
  rw [if_neg (fun q => by have := q.1; simp at this), if_neg (fun q => q rfl), if_neg (by show ¬ (0 + g.length + m = 0); omega), if_neg (fun q => q rfl), if_neg (fun q => by have h2 : m = 0 := q.2; omega)]
theorem of_move {t t3 u : List Nd} {d i D k : Int} {n N : Nm} (ho : okT t) (hle : t.length ≤ 24) (m : Mv3 t t3 d n i D N k) (fn : fnd (tget t d).ents n = i) (hi : i ≠ 0) (kd : (tget t d).kind = 2) (kD : (tget t D).kind = 2) (fN : fnd (tget t D).ents N = k) (hki : k ≠ i)
    (hke : (tget t k).ents = []) (hkk : k ≠ 0 → tis t k = true) (hu : ∀ j, j ≠ k → tget u j = tget t3 j) (huk : tget u k = tget t3 k ∨ (k ≠ 0 ∧ (tget u k).kind = 0)) : ofC t u = ⟨5, i, d, n, D, N, k⟩ := by
  have hi1 : 1 ≤ i := by rw [← fn]; exact ok_fnd ho (by rw [fn]; exact hi)
  have hne : ¬ (D = d ∧ N = n) := fun q => hki (by rw [← fN, ← fn, q.1, q.2])
  have hnd : n ∈ nmE (tget t d).ents := fnd_mem (by rw [fn]; exact hi)
  have hdk : d ≠ k := fun q => by rw [q, hke] at hnd; cases hnd
  have hDk : D ≠ k := fun q => by
    have hk0 : k = 0 := by rw [← fN, q, hke]; rfl
    rw [q, hk0, zero_kind] at kD
    exact absurd kD (by decide)
  have i1 : ∀ j e, e ∈ (tget t j).ents ↔ (fnd (tget t j).ents e.1 = e.2 ∧ 1 ≤ e.2) := fun j e => ent_iff (ok_ris ho j) (fun e he => ok_pos ho he) e
  have i3 : ∀ j e, e ∈ (tget t3 j).ents ↔ (fnd (tget t3 j).ents e.1 = e.2 ∧ 1 ≤ e.2) := fun j e => ent_iff (ok_ris m.ok j) (fun e he => ok_pos m.ok he) e
  -- what is lost, and what is won
  have hL : ∀ j e, e ∈ (tget t j).ents → ((!toB (e ∈ (tget t3 j).ents)) = true ↔ (j = D ∧ e.1 = N) ∨ (j = d ∧ e.1 = n)) := fun j e he => by
    obtain ⟨h1, h2⟩ := (i1 j e).1 he
    rw [not_toB, i3, m.fnd]
    by_cases q1 : j = D ∧ e.1 = N
    · rw [if_pos q1]
      refine ⟨fun _ => .inl q1, fun _ z => hki ?_⟩
      rw [← fN, ← q1.1, ← q1.2, h1]
      exact z.1.symm
    · rw [if_neg q1]
      by_cases q2 : j = d ∧ e.1 = n
      · rw [if_pos q2]
        exact ⟨fun _ => .inr q2, fun _ z => by have := z.1; omega⟩
      · rw [if_neg q2]
        exact ⟨fun z => absurd ⟨h1, h2⟩ z, fun z => (z.elim q1 q2).elim⟩
  have hW : ∀ j e, e ∈ (tget t3 j).ents → ((!toB (e ∈ (tget t j).ents)) = true ↔ (j = D ∧ e = (N, i))) := fun j e he => by
    obtain ⟨h1, h2⟩ := (i3 j e).1 he
    rw [m.fnd] at h1
    rw [not_toB, i1]
    by_cases q1 : j = D ∧ e.1 = N
    · rw [if_pos q1] at h1
      refine ⟨fun _ => ⟨q1.1, Prod.ext q1.2 h1.symm⟩, fun _ z => hki ?_⟩
      rw [← fN, ← q1.1, ← q1.2, z.1, h1]
    · rw [if_neg q1] at h1
      by_cases q2 : j = d ∧ e.1 = n
      · rw [if_pos q2] at h1
        omega
      · rw [if_neg q2] at h1
        exact ⟨fun z => absurd ⟨h1, h2⟩ z, fun z => absurd ⟨z.1, by rw [z.2]⟩ q1⟩
  have hni : (n, i) ∈ (tget t d).ents := (i1 d (n, i)).2 ⟨fn, hi1⟩
  have hNi : (N, i) ∈ (tget t3 D).ents := (i3 D (N, i)).2 ⟨by rw [m.fnd, if_pos ⟨rfl, rfl⟩], hi1⟩
  have hname : ∀ j e x, e ∈ (tget t j).ents → e.1 = x → e = (x, fnd (tget t j).ents x) := fun j e x he hx => by
    subst hx
    exact Prod.ext rfl ((i1 j e).1 he).1.symm
  -- what became of each number
  have ud : tget u d = tget t3 d := hu d hdk
  have uD : tget u D = tget t3 D := hu D hDk
  have cd := cls_ent kd (show bareN (tget t d) = bareN (tget u d) by rw [ud]; exact (m.head d).symm) (fun q => by
    rw [ud] at q
    have h1 := m.fnd d n
    rw [← q, fn, if_neg (fun z => hne ⟨z.1.symm, z.2.symm⟩), if_pos ⟨rfl, rfl⟩] at h1
    exact hi h1)
  have cD := cls_ent kD (show bareN (tget t D) = bareN (tget u D) by rw [uD]; exact (m.head D).symm) (fun q => by
    rw [uD] at q
    have h1 := m.fnd D N
    rw [← q, fN, if_pos ⟨rfl, rfl⟩] at h1
    exact hki h1)
  have hoth : ∀ j, j ≠ d → j ≠ D → j ≠ k → tget t j = tget u j := fun j h1 h2 h3 => by rw [hu j h3, m.other j h1 h2]
  have hid := tis_in (kind_tis kd)
  have hiD := tis_in (kind_tis kD)
  have md : d ∈ idx24 := mem_idx24.2 (by omega)
  have mD : D ∈ idx24 := mem_idx24.2 (by omega)
  have hk3 : tget t3 k = tget t k := m.other k (fun q => hdk q.symm) (fun q => hDk q.symm)
  obtain ⟨g, hg, hgk, cn, cl, ce⟩ : ∃ g, idx24.filter (fun i => isGone (tget t i) (tget u i)) = g ∧ (g = [] ∨ (k ≠ 0 ∧ g = [k])) ∧ (∀ j ∈ idx24, isNew (tget t j) (tget u j) = false) ∧ (∀ j ∈ idx24, isEls (tget t j) (tget u j) = false) ∧ (∀ j ∈ idx24, j ≠ d → j ≠ D → isEnt (tget t j) (tget u j) = false) := by
    rcases huk with huk | ⟨hk0, huk⟩
    · have hs : ∀ j, j ≠ d → j ≠ D → tget t j = tget u j := fun j h1 h2 => by
        by_cases q : j = k
        · rw [q, huk, hk3]
        · exact hoth j h1 h2 q
      refine ⟨[], filter_none (fun j _ => ?_), .inl rfl, fun j _ => ?_, fun j _ => ?_, fun j _ h1 h2 => (cls_same (hs j h1 h2)).2.2.1⟩
      all_goals
        by_cases q : j = d
        · rw [q]; first | exact cd.2.1 | exact cd.1 | exact cd.2.2.2
        · by_cases z : j = D
          · rw [z]; first | exact cD.2.1 | exact cD.1 | exact cD.2.2.2
          · first | exact (cls_same (hs j q z)).2.1 | exact (cls_same (hs j q z)).1 | exact (cls_same (hs j q z)).2.2.2
    · have htk := hkk hk0
      have hik := tis_in htk
      have ck := cls_gone (a := tget t k) (b := tget u k) (fun q => by unfold tis at htk; rw [q] at htk; exact absurd htk (by decide)) huk
      refine ⟨[k], filter_one idx24_sorted (mem_idx24.2 (by omega)) ck.2.1 (fun j _ hj => ?_), .inr ⟨hk0, rfl⟩, fun j _ => ?_, fun j _ => ?_, fun j _ h1 h2 => ?_⟩
      · by_cases q : j = d
        · rw [q]; exact cd.2.1
        · by_cases z : j = D
          · rw [z]; exact cD.2.1
          · exact (cls_same (hoth j q z hj)).2.1
      · by_cases q : j = d
        · rw [q]; exact cd.1
        · by_cases z : j = D
          · rw [z]; exact cD.1
          · by_cases x : j = k
            · rw [x]; exact ck.1
            · exact (cls_same (hoth j q z x)).1
      · by_cases q : j = d
        · rw [q]; exact cd.2.2.2
        · by_cases z : j = D
          · rw [z]; exact cD.2.2.2
          · by_cases x : j = k
            · rw [x]; exact ck.2.2.2
            · exact (cls_same (hoth j q z x)).2.2.2
      · by_cases x : j = k
        · rw [x]; exact ck.2.2.1
        · exact (cls_same (hoth j h1 h2 x)).2.2.1
  have hgk2 : k = 0 → g = [] := fun q => hgk.resolve_right (fun z => z.1 q)
  have hgk3 : g = [] ∨ g = [k] := hgk.imp id (fun z => z.2)
  have hWD : lessE D (tget u D) (tget t D) = [⟨D, N, i⟩] := by
    rw [less_eq, uD, filter_sing (rise_ents (ok_ris m.ok D)) hNi (fun e he => (hW D e he).trans ⟨fun z => z.2, fun z => ⟨rfl, z⟩⟩)]
    rfl
  have kpos : k ≠ 0 → 1 ≤ k := fun q => by rw [← fN]; exact ok_fnd ho (by rw [fN]; exact q)
  have hNk : k ≠ 0 → (N, k) ∈ (tget t D).ents := fun q => (i1 D (N, k)).2 ⟨fN, kpos q⟩
  have hno : k = 0 → ∀ e ∈ (tget t D).ents, e.1 ≠ N := fun q e he z => by
    have h1 := (i1 D e).1 he
    rw [z, fN, q] at h1
    omega
  by_cases hDd : D = d
  · subst hDd
    have hf : idx24.filter (fun i => isEnt (tget t i) (tget u i)) = [D] := filter_one idx24_sorted mD cD.2.2.1 (fun j hj hjd => ce j hj hjd hjd)
    have e : difT t u = ⟨[], g, [], 1, lessE D (tget t D) (tget u D), [⟨D, N, i⟩]⟩ := by
      unfold difT difL
      rw [filter_none cn, hg, filter_none cl, hf]
      simp [hWD]
    rw [of_ents (Nat.le_refl 1) e]
    refine ents_move hki ?_
    rw [less_eq, uD]
    by_cases hk0 : k = 0
    · left
      refine ⟨hk0, hgk2 hk0, ?_⟩
      rw [filter_sing (rise_ents (ok_ris ho D)) hni (fun e he => (hL D e he).trans ⟨fun z => ?_, fun z => .inr ⟨rfl, by rw [z]⟩⟩)]
      · rfl
      · rcases z with z | z
        · exact absurd z.2 (hno hk0 e he)
        · rw [hname D e n he z.2, fn]
    · right
      refine ⟨kpos hk0, hgk3, ?_⟩
      have hnN : (n, i) ≠ (N, k) := fun q => hki (by injection q with _ q; exact q.symm)
      have hp : ∀ e ∈ (tget t D).ents, (!toB (e ∈ (tget t3 D).ents)) = true ↔ e = (n, i) ∨ e = (N, k) := fun e he => by
        rw [hL D e he]
        constructor
        · rintro (z | z)
          · right
            rw [hname D e N he z.2, fN]
          · left
            rw [hname D e n he z.2, fn]
        · rintro (z | z)
          · exact .inr ⟨rfl, by rw [z]⟩
          · exact .inl ⟨rfl, by rw [z]⟩
      rcases filter_pair (rise_ents (ok_ris ho D)) hnN hni (hNk hk0) hp with q | q
      · left
        rw [q]
        rfl
      · right
        rw [q]
        rfl
  · have l1 : lessE d (tget t d) (tget u d) = [⟨d, n, i⟩] := by
      rw [less_eq, ud, filter_sing (rise_ents (ok_ris ho d)) hni (fun e he => (hL d e he).trans ⟨fun z => ?_, fun z => .inr ⟨rfl, by rw [z]⟩⟩)]
      · rfl
      · rcases z with z | z
        · exact absurd z.1.symm hDd
        · rw [hname d e n he z.2, fn]
    have l2 : lessE d (tget u d) (tget t d) = [] := by
      rw [less_eq, ud, List.filter_eq_nil_iff.2 (fun e he q => hDd ((hW d e he).1 q).1.symm)]
      rfl
    have l3 : (k = 0 ∧ lessE D (tget t D) (tget u D) = []) ∨ (k ≠ 0 ∧ lessE D (tget t D) (tget u D) = [⟨D, N, k⟩]) := by
      rw [less_eq, uD]
      by_cases hk0 : k = 0
      · left
        refine ⟨hk0, ?_⟩
        rw [List.filter_eq_nil_iff.2 (fun e he q => ?_)]
        · rfl
        · rcases (hL D e he).1 q with z | z
          · exact hno hk0 e he z.2
          · exact hDd z.1
      · right
        refine ⟨hk0, ?_⟩
        rw [filter_sing (rise_ents (ok_ris ho D)) (hNk hk0) (fun e he => (hL D e he).trans ⟨fun z => ?_, fun z => .inl ⟨rfl, by rw [z]⟩⟩)]
        · rfl
        · rcases z with z | z
          · rw [hname D e N he z.2, fN]
          · exact absurd z.1 hDd
    have e : ∃ L, difT t u = ⟨[], g, [], 2, L, [⟨D, N, i⟩]⟩ ∧ ((k = 0 ∧ L = [⟨d, n, i⟩]) ∨ (k ≠ 0 ∧ (L = [⟨d, n, i⟩, ⟨D, N, k⟩] ∨ L = [⟨D, N, k⟩, ⟨d, n, i⟩]))) := by
      unfold difT difL
      rw [filter_none cn, hg, filter_none cl]
      rcases Int.lt_or_gt_of_ne hDd with q | q
      · rw [filter_two idx24_sorted q mD md cD.2.2.1 cd.2.2.1 (fun j hj h1 h2 => ce j hj h2 h1)]
        rcases l3 with ⟨h0, l3⟩ | ⟨h0, l3⟩
        · exact ⟨[⟨d, n, i⟩], by simp [l1, l2, l3, hWD], .inl ⟨h0, rfl⟩⟩
        · exact ⟨[⟨D, N, k⟩, ⟨d, n, i⟩], by simp [l1, l2, l3, hWD], .inr ⟨h0, .inr rfl⟩⟩
      · rw [filter_two idx24_sorted q md mD cd.2.2.1 cD.2.2.1 (fun j hj h1 h2 => ce j hj h1 h2)]
        rcases l3 with ⟨h0, l3⟩ | ⟨h0, l3⟩
        · exact ⟨[⟨d, n, i⟩], by simp [l1, l2, l3, hWD], .inl ⟨h0, rfl⟩⟩
        · exact ⟨[⟨d, n, i⟩, ⟨D, N, k⟩], by simp [l1, l2, l3, hWD], .inr ⟨h0, .inl rfl⟩⟩
    obtain ⟨L, e, hLL⟩ := e
    rw [of_ents (by decide) e]
    refine ents_move hki ?_
    rcases hLL with ⟨h0, h1⟩ | ⟨h0, h1⟩
    · exact .inl ⟨h0, hgk2 h0, h1⟩
    · exact .inr ⟨kpos h0, hgk3, h1⟩
end Go.Proofs.YtnkjaocmfhjnoaaGreat
namespace Go.Proofs.YtnkjaocmfhjnoaaGreat
open Go Go.RowKit
set_option maxRecDepth 100000

noncomputable def fateN (a b : Nd) : Nat := if a.kind = 0 ∧ b.kind ≠ 0 then 1 else if a.kind ≠ 0 ∧ b.kind = 0 then 2 else if toB (a = b) = true then 0 else if toB (a.kind = 2 ∧ bareN a = bareN b) = true then 3 else 4
noncomputable def numL (t u : List Nd) (f : Nat) (l : List Int) : List Int := l.filter (fun i => toB (fateN (tget t i) (tget u i) = f))
def onlyI : List Int → Int
  | [x] => x
  | _ => 0
noncomputable def alI (f g e s : List Int) : Int := if f = [] ∧ g = [] ∧ e = [] then onlyI s else 0
def gbB (g : List Int) (i : Int) : Bool := g.any (fun j => j != i)
noncomputable def nonB (f g e s : List Int) : Bool := toB (f = [] ∧ g = [] ∧ e = [] ∧ s = [])
noncomputable def atrB (t u : List Nd) (i : Int) : Bool := i != 0 && toB ((⟨(tget t i).kind, (tget u i).mode, (tget u i).uid, (tget u i).gid, (tget t i).data, (tget t i).ents, (tget t i).target⟩ : Nd) = tget u i)
noncomputable def datB (t u : List Nd) (i : Int) : Bool := toB (((tget t i).kind = 1 ∧ (tget u i).kind = 1) ∧ (tget t i).uid = (tget u i).uid ∧ (tget t i).gid = (tget u i).gid ∧ (tget t i).target = (tget u i).target)
noncomputable def mkP (f g s : List Int) (lost won : List Ech) : Chg × Bool :=
  if onlyI f = 0 ∨ ¬ (g = [] ∧ s = []) ∨ lost ≠ [] ∨ won.length ≠ 1 then (Chg.zero, false)
  else (⟨3, onlyI f, (won.headD Ech.zero).dir, (won.headD Ech.zero).name, 0, [], 0⟩, (won.headD Ech.zero).node == onlyI f)
noncomputable def freB (f g e s : List Int) : Bool := onlyI g != 0 && toB (f = [] ∧ e = [] ∧ s = [])
noncomputable def takP (f g s : List Int) (lost won : List Ech) : Chg × Bool :=
  if ¬ (f = [] ∧ s = []) ∨ lost.length ≠ 1 ∨ won ≠ [] then (Chg.zero, false)
  else (⟨4, (lost.headD Ech.zero).node, (lost.headD Ech.zero).dir, (lost.headD Ech.zero).name, 0, [], 0⟩, !gbB g (lost.headD Ech.zero).node)
noncomputable def mvS (w : Ech) (c : Chg) (e : Ech) : Option Chg :=
  if e.dir = w.dir ∧ e.name = w.name then some { c with over := e.node }
  else if e.node = w.node ∧ c.dir = 0 then some { c with dir := e.dir, name := e.name } else none
noncomputable def mvF (w : Ech) : Chg → List Ech → Option Chg
  | c, [] => some c
  | c, e :: l => (mvS w c e).bind (fun c' => mvF w c' l)
noncomputable def movP (f g s : List Int) (lost won : List Ech) : Chg × Bool :=
  if ¬ (f = [] ∧ s = []) ∨ won.length ≠ 1 then (Chg.zero, false)
  else match mvF (won.headD Ech.zero) ⟨5, (won.headD Ech.zero).node, 0, [], (won.headD Ech.zero).dir, (won.headD Ech.zero).name, 0⟩ lost with
    | none => (Chg.zero, false)
    | some c => (c, c.dir != 0 && !gbB g c.over)
noncomputable def prgL (t u : List Nd) (f g e s : List Int) (lost won : List Ech) : Chg :=
  if nonB f g e s = true then Chg.zero
  else if atrB t u (alI f g e s) = true then Chg.n 1 (alI f g e s)
  else if datB t u (alI f g e s) = true then Chg.n 2 (alI f g e s)
  else if (mkP f g s lost won).2 = true then (mkP f g s lost won).1
  else if freB f g e s = true then Chg.n 6 (onlyI g)
  else if (takP f g s lost won).2 = true then (takP f g s lost won).1
  else if (movP f g s lost won).2 = true then (movP f g s lost won).1
  else Chg.k 7
noncomputable def justL (t u : List Nd) (l : List Int) : List Ech := l.flatMap (fun i => lessE i (tget t i) (tget u i))
noncomputable def prgC (t u : List Nd) : Chg := prgL t u (numL t u 1 idx24) (numL t u 2 idx24) (numL t u 3 idx24) (numL t u 4 idx24) (justL t u (numL t u 3 idx24)) (justL u t (numL t u 3 idx24))

/-! The lists are the reference's. -/
theorem nz_eq {a b : Nd} (ha : a.kind = 0 → a = Nd.zero) (hb : b.kind = 0 → b = Nd.zero) : toB (fateN a b = 1) = isNew a b ∧ toB (fateN a b = 2) = isGone a b ∧ toB (fateN a b = 3) = isEnt a b ∧ toB (fateN a b = 4) = isEls a b := by
  by_cases q : a = b
  · obtain ⟨c1, c2, c3, c4⟩ := cls_same q
    have e : fateN a b = 0 := by
      unfold fateN
      rw [if_neg (fun h => h.2 (by rw [← q]; exact h.1)), if_neg (fun h => h.1 (by rw [q]; exact h.2)), if_pos (toB_true q)]
    rw [c1, c2, c3, c4, e]
    exact ⟨toB_false (by decide), toB_false (by decide), toB_false (by decide), toB_false (by decide)⟩
  · by_cases k1 : a.kind = 0
    · have k2 : b.kind ≠ 0 := fun h => q (by rw [ha k1, hb h])
      obtain ⟨c1, c2, c3, c4⟩ := cls_new k1 k2
      have e : fateN a b = 1 := by unfold fateN; rw [if_pos ⟨k1, k2⟩]
      rw [c1, c2, c3, c4, e]
      exact ⟨toB_true rfl, toB_false (by decide), toB_false (by decide), toB_false (by decide)⟩
    · by_cases k2 : b.kind = 0
      · obtain ⟨c1, c2, c3, c4⟩ := cls_gone k1 k2
        have e : fateN a b = 2 := by unfold fateN; rw [if_neg (fun h => k1 h.1), if_pos ⟨k1, k2⟩]
        rw [c1, c2, c3, c4, e]
        exact ⟨toB_false (by decide), toB_true rfl, toB_false (by decide), toB_false (by decide)⟩
      · by_cases k3 : a.kind = 2 ∧ bareN a = bareN b
        · obtain ⟨c1, c2, c3, c4⟩ := cls_ent k3.1 k3.2 q
          have e : fateN a b = 3 := by unfold fateN; rw [if_neg (fun h => k1 h.1), if_neg (fun h => k2 h.2), if_neg (fun h => q (toB_iff.1 h)), if_pos (toB_true k3)]
          rw [c1, c2, c3, c4, e]
          exact ⟨toB_false (by decide), toB_false (by decide), toB_true rfl, toB_false (by decide)⟩
        · obtain ⟨c1, c2, c3, c4⟩ := cls_els q k1 k2 k3
          have e : fateN a b = 4 := by unfold fateN; rw [if_neg (fun h => k1 h.1), if_neg (fun h => k2 h.2), if_neg (fun h => q (toB_iff.1 h)), if_neg (fun h => k3 (toB_iff.1 h))]
          rw [c1, c2, c3, c4, e]
          exact ⟨toB_false (by decide), toB_false (by decide), toB_false (by decide), toB_true rfl⟩
theorem num_eq {t u : List Nd} (ht : Nz t) (hu : Nz u) (l : List Int) : numL t u 1 l = l.filter (fun i => isNew (tget t i) (tget u i)) ∧ numL t u 2 l = l.filter (fun i => isGone (tget t i) (tget u i)) ∧ numL t u 3 l = l.filter (fun i => isEnt (tget t i) (tget u i)) ∧ numL t u 4 l = l.filter (fun i => isEls (tget t i) (tget u i)) := by
  unfold numL
  exact ⟨List.filter_congr (fun i _ => (nz_eq (ht i) (hu i)).1), List.filter_congr (fun i _ => (nz_eq (ht i) (hu i)).2.1), List.filter_congr (fun i _ => (nz_eq (ht i) (hu i)).2.2.1), List.filter_congr (fun i _ => (nz_eq (ht i) (hu i)).2.2.2)⟩

/-! The kinds, over lists. -/
theorem only_nil {l : List Int} (h : l.length ≠ 1) : onlyI l = 0 := by
  match l, h with
  | [], _ => rfl
  | [_], h => exact absurd rfl h
  | _ :: _ :: _, _ => rfl
theorem gb_only {g : List Int} (hs : g.Pairwise (· < ·)) (hp : ∀ i ∈ g, 1 ≤ i) (k : Int) : (!gbB g k) = onlyG g k := by
  unfold gbB onlyG
  match g, hs, hp with
  | [], _, _ => rfl
  | [x], _, hp =>
    have hx := hp x (List.mem_singleton.2 rfl)
    by_cases e : x = k
    · subst e
      rw [toB_true rfl, decide_eq_true (by omega : 0 < x)]
      simp
    · rw [toB_false (fun q => e (by injection q))]
      simpa using e
  | x :: y :: l, hs, _ =>
    have hxy : x < y := (List.pairwise_cons.1 hs).1 y (List.mem_cons_self ..)
    rw [toB_false (fun q => by injection q with _ q; cases q)]
    by_cases e : x = k
    · have : y ≠ k := by omega
      simp [this]
    · simp [e]
theorem mvF_nil {w : Ech} {c : Chg} : mvF w c [] = some c := rfl
theorem mvF_some {w : Ech} {c c' : Chg} {e : Ech} {l : List Ech} (h : mvS w c e = some c') : mvF w c (e :: l) = mvF w c' l := by
  show (mvS w c e).bind (fun c' => mvF w c' l) = _
  rw [h]
  rfl
theorem mvF_none {w : Ech} {c : Chg} {e : Ech} {l : List Ech} (h : mvS w c e = none) : mvF w c (e :: l) = none := by
  show (mvS w c e).bind (fun c' => mvF w c' l) = _
  rw [h]
  rfl
theorem mv_is {g : List Int} {w : Ech} {lost : List Ech} {m : Nat} {f s : List Int} (hg : g.Pairwise (· < ·)) (hp : ∀ i ∈ g, 1 ≤ i) (hd : ∀ e ∈ lost, 1 ≤ e.dir ∧ 1 ≤ e.node) (hA : ∀ e ∈ lost, e.dir = w.dir → e.name = w.name → e.node ≠ w.node) (hn : lost.Pairwise (fun a b => ¬ (a.dir = b.dir ∧ a.name = b.name))) (hf : f = []) (hs : s = []) :
    (if (movP f g s lost [w]).2 = true then (movP f g s lost [w]).1 else Chg.k 7) = entsC ⟨f, g, s, m, lost, [w]⟩ := by
  subst hf hs
  have e0 : movP [] g [] lost [w] = (match mvF w ⟨5, w.node, 0, [], w.dir, w.name, 0⟩ lost with
    | none => (Chg.zero, false)
    | some c => (c, c.dir != 0 && !gbB g c.over)) := by
    unfold movP
    rw [if_neg (fun q => by rcases q with q | q; exact q ⟨rfl, rfl⟩; exact q rfl)]
    rfl
  rw [e0]
  have hsA : ∀ (c : Chg) (e : Ech), e.dir = w.dir ∧ e.name = w.name → mvS w c e = some { c with over := e.node } := fun c e h => by unfold mvS; rw [if_pos h]
  have hsB : ∀ (c : Chg) (e : Ech), ¬ (e.dir = w.dir ∧ e.name = w.name) → e.node = w.node → c.dir = 0 → mvS w c e = some { c with dir := e.dir, name := e.name } := fun c e h h2 h3 => by unfold mvS; rw [if_neg h, if_pos ⟨h2, h3⟩]
  have hsN : ∀ (c : Chg) (e : Ech), ¬ (e.dir = w.dir ∧ e.name = w.name) → ¬ (e.node = w.node ∧ c.dir = 0) → mvS w c e = none := fun c e h h2 => by unfold mvS; rw [if_neg h, if_neg h2]
  have hM7 : ∀ a b : Ech, a.node ≠ w.node → moveC g w a b = Chg.k 7 := fun a b h => by unfold moveC; rw [if_pos (.inl h)]
  have hM : ∀ a b : Ech, a.node = w.node → (b.node = 0 ∨ (b.dir = w.dir ∧ b.name = w.name ∧ b.node ≠ w.node)) → moveC g w a b = if onlyG g b.node = true then ⟨5, w.node, a.dir, a.name, w.dir, w.name, b.node⟩ else Chg.k 7 := fun a b h h2 => by
    unfold moveC
    cases ho : onlyG g b.node with
    | true =>
      rw [if_pos rfl, if_neg (fun q => by
        rcases q with q | q | q
        · exact q h
        · rcases h2 with h2 | h2
          · omega
          · rcases q.2 with z | z | z
            · exact z h2.1
            · exact z h2.2.1
            · exact h2.2.2 z
        · cases q)]
    | false => rw [if_neg (show ¬ (false = true) by decide), if_pos (.inr (.inr rfl))]
  have key1 : ∀ X : Chg, (if (match some X with
    | none => (Chg.zero, false)
    | some c => (c, c.dir != 0 && !gbB g c.over)).2 = true then (match some X with
    | none => (Chg.zero, false)
    | some c => (c, c.dir != 0 && !gbB g c.over)).1 else Chg.k 7) = if (X.dir != 0 && onlyG g X.over) = true then X else Chg.k 7 := fun X => by
    show (if (X.dir != 0 && !gbB g X.over) = true then X else Chg.k 7) = _
    rw [gb_only hg hp]
  match lost, hd, hA, hn with
  | [], _, _, _ => rfl
  | [a], hd, hA, _ =>
    have da := hd a (List.mem_singleton.2 rfl)
    have hne : (a.dir != 0) = true := by simpa using (by omega : a.dir ≠ 0)
    show _ = moveC g w a Ech.zero
    by_cases q : a.dir = w.dir ∧ a.name = w.name
    · rw [hM7 a _ (hA a (List.mem_singleton.2 rfl) q.1 q.2), mvF_some (hsA _ _ q), mvF_nil, key1]
      rfl
    · by_cases z : a.node = w.node
      · rw [hM a Ech.zero z (.inl rfl), mvF_some (hsB _ _ q z rfl), mvF_nil, key1]
        show (if (a.dir != 0 && onlyG g 0) = true then _ else _) = _
        rw [hne, Bool.true_and]
        rfl
      · rw [hM7 a _ z, mvF_none (hsN _ _ q (fun x => z x.1))]
        rfl
  | [a, b], hd, hA, _ =>
    have da := hd a (by simp)
    have db := hd b (by simp)
    have ha := hA a (by simp)
    have hb := hA b (by simp)
    have hna : (a.dir != 0) = true := by simpa using (by omega : a.dir ≠ 0)
    have hnb : (b.dir != 0) = true := by simpa using (by omega : b.dir ≠ 0)
    show _ = if (moveC g w a b).kind = 5 then moveC g w a b else moveC g w b a
    by_cases q : a.dir = w.dir ∧ a.name = w.name
    · have na := ha q.1 q.2
      rw [hM7 a b na, if_neg (show ¬ ((Chg.k 7).kind = 5) by decide), mvF_some (hsA _ _ q)]
      by_cases q2 : b.dir = w.dir ∧ b.name = w.name
      · rw [mvF_some (hsA _ _ q2), mvF_nil, key1, hM7 b a (hb q2.1 q2.2)]
        rfl
      · by_cases z : b.node = w.node
        · rw [mvF_some (hsB _ _ q2 z rfl), mvF_nil, key1, hM b a z (.inr ⟨q.1, q.2, na⟩)]
          show (if (b.dir != 0 && onlyG g a.node) = true then _ else _) = _
          rw [hnb, Bool.true_and]
        · rw [mvF_none (hsN _ _ q2 (fun x => z x.1)), hM7 b a z]
          rfl
    · by_cases z : a.node = w.node
      · rw [mvF_some (hsB _ _ q z rfl)]
        by_cases q2 : b.dir = w.dir ∧ b.name = w.name
        · have nb := hb q2.1 q2.2
          rw [mvF_some (hsA _ _ q2), mvF_nil, key1, hM a b z (.inr ⟨q2.1, q2.2, nb⟩), hM7 b a nb]
          show (if (a.dir != 0 && onlyG g b.node) = true then _ else _) = _
          rw [hna, Bool.true_and]
          cases onlyG g b.node with
          | true => rw [if_pos rfl, if_pos rfl]
          | false => rw [if_neg (by decide), if_neg (by decide)]
        · have hc : moveC g w a b = Chg.k 7 := by
            unfold moveC
            refine if_pos (.inr (.inl ⟨by omega, ?_⟩))
            by_cases x : b.dir = w.dir
            · exact .inr (.inl (fun y => q2 ⟨x, y⟩))
            · exact .inl x
          have hc2 : moveC g w b a = Chg.k 7 := by
            unfold moveC
            refine if_pos (.inr (.inl ⟨by omega, ?_⟩))
            by_cases x : a.dir = w.dir
            · exact .inr (.inl (fun y => q ⟨x, y⟩))
            · exact .inl x
          rw [mvF_none (hsN _ _ q2 (fun x => absurd (show a.dir = 0 from x.2) (by omega))), hc, hc2]
          rfl
      · have hc2 : moveC g w b a = Chg.k 7 := by
          unfold moveC
          refine if_pos (.inr (.inl ⟨by omega, ?_⟩))
          by_cases x : a.dir = w.dir
          · exact .inr (.inl (fun y => q ⟨x, y⟩))
          · exact .inl x
        rw [hM7 a b z, hc2, mvF_none (hsN _ _ q (fun x => z x.1))]
        rfl
  | a :: b :: c :: l, hd, hA, hn =>
    show _ = Chg.k 7
    have key : ∀ (l : List Ech) (k : Chg) (c : Chg), (∀ e ∈ l, 1 ≤ e.dir) → mvF w k l = some c → l.Pairwise (fun a b => ¬ (a.dir = b.dir ∧ a.name = b.name)) → l.length ≤ (if k.dir = 0 then 1 else 0) + (if ∃ e ∈ l, e.dir = w.dir ∧ e.name = w.name then 1 else 0) ∧ (c.dir ≠ 0 → True) := by
      intro l
      induction l with
      | nil => intro k c _ _ _; exact ⟨by simp, fun _ => trivial⟩
      | cons e l ih =>
        intro k c hl hm hp
        obtain ⟨p1, p2⟩ := List.pairwise_cons.1 hp
        have hl2 : ∀ e ∈ l, 1 ≤ e.dir := fun x hx => hl x (List.mem_cons_of_mem _ hx)
        have he := hl e (List.mem_cons_self ..)
        unfold mvF at hm
        by_cases q : e.dir = w.dir ∧ e.name = w.name
        · rw [hsA _ _ q] at hm
          have h1 := (ih _ c hl2 hm p2).1
          have hno : ¬ ∃ x ∈ l, x.dir = w.dir ∧ x.name = w.name := fun ⟨x, hx, hx2⟩ => p1 x hx ⟨q.1.trans hx2.1.symm, q.2.trans hx2.2.symm⟩
          rw [if_neg hno] at h1
          rw [if_pos (show ∃ x ∈ e :: l, x.dir = w.dir ∧ x.name = w.name from ⟨e, List.mem_cons_self .., q⟩)]
          refine ⟨?_, fun _ => trivial⟩
          have h2 : l.length ≤ (if k.dir = 0 then 1 else 0) + 0 := h1
          simp only [List.length_cons]
          omega
        · by_cases z : e.node = w.node ∧ k.dir = 0
          · rw [hsB _ _ q z.1 z.2] at hm
            have h1 := (ih _ c hl2 hm p2).1
            have h3 : ¬ (({ k with dir := e.dir, name := e.name } : Chg).dir = 0) := by show ¬ e.dir = 0; omega
            rw [if_neg h3] at h1
            rw [if_pos z.2]
            refine ⟨?_, fun _ => trivial⟩
            by_cases x : ∃ y ∈ l, y.dir = w.dir ∧ y.name = w.name
            · rw [if_pos x] at h1
              obtain ⟨y, hy, hy2⟩ := x
              rw [if_pos (show ∃ x ∈ e :: l, x.dir = w.dir ∧ x.name = w.name from ⟨y, List.mem_cons_of_mem _ hy, hy2⟩)]
              simp only [List.length_cons]
              omega
            · rw [if_neg x] at h1
              simp only [List.length_cons]
              split <;> omega
          · rw [hsN _ _ q z] at hm
            cases hm
    cases hm : mvF w ⟨5, w.node, 0, [], w.dir, w.name, 0⟩ (a :: b :: c :: l) with
    | none => rfl
    | some x =>
      exfalso
      have h1 := (key _ _ x (fun e he => (hd e he).1) hm hn).1
      simp only [List.length_cons] at h1
      split at h1 <;> split at h1 <;> omega
theorem alI_zero {f g e s : List Int} (h : onlyI s = 0 ∨ ¬ (f = [] ∧ g = [] ∧ e = [])) : alI f g e s = 0 := by
  unfold alI
  rcases h with h | h
  · rw [h]
    split <;> rfl
  · exact if_neg h
theorem atr_zero (t u : List Nd) : atrB t u 0 = false := rfl
theorem dat_zero (t u : List Nd) : datB t u 0 = false := toB_false (fun q => by
  have h : (tget t 0).kind = 1 := q.1.1
  rw [tget_out (by omega)] at h
  exact absurd h (by decide))
theorem mk_not {f g s : List Int} {lost won : List Ech} (h : onlyI f = 0 ∨ ¬ (g = [] ∧ s = []) ∨ lost ≠ [] ∨ won.length ≠ 1) : (mkP f g s lost won).2 = false := by
  unfold mkP
  rw [if_pos h]
theorem fre_not {f g e s : List Int} (h : onlyI g = 0 ∨ ¬ (f = [] ∧ e = [] ∧ s = [])) : freB f g e s = false := by
  unfold freB
  rcases h with h | h
  · rw [h]
    rfl
  · rw [toB_false h, Bool.and_false]
theorem tak_not {f g s : List Int} {lost won : List Ech} (h : ¬ (f = [] ∧ s = []) ∨ lost.length ≠ 1 ∨ won ≠ []) : (takP f g s lost won).2 = false := by
  unfold takP
  rw [if_pos h]
theorem mov_not {f g s : List Int} {lost won : List Ech} (h : ¬ (f = [] ∧ s = []) ∨ won.length ≠ 1) : (movP f g s lost won).2 = false := by
  unfold movP
  rw [if_pos h]
theorem not_tt {α : Type} {b : Bool} (h : b = false) (x y : α) : (if b = true then x else y) = y := if_neg (by rw [h]; decide)
theorem lists_of {t u : List Nd} {f g e s : List Int} {lost won : List Ech} (hgs : g.Pairwise (· < ·)) (hf : ∀ i ∈ f, 1 ≤ i) (hg : ∀ i ∈ g, 1 ≤ i) (hs : ∀ i ∈ s, 1 ≤ i) (hd : ∀ e ∈ lost, 1 ≤ e.dir ∧ 1 ≤ e.node) (hA : ∀ a ∈ lost, ∀ w ∈ won, a.dir = w.dir → a.name = w.name → a.node ≠ w.node) (hn : lost.Pairwise (fun a b => ¬ (a.dir = b.dir ∧ a.name = b.name)))
    (hal : ∀ i, s = [i] → datB t u i = toB ((tget t i).kind = 1 ∧ toB ((⟨(tget t i).kind, (tget u i).mode, (tget t i).uid, (tget t i).gid, (tget u i).data, (tget t i).ents, (tget t i).target⟩ : Nd) = tget u i) = true)) :
    prgL t u f g e s lost won = ofD t u ⟨f, g, s, e.length, lost, won⟩ := by
  have hsum : (f.length + g.length + e.length = 0) ↔ (f = [] ∧ g = [] ∧ e = []) := by
    rw [← List.length_eq_zero_iff (l := f), ← List.length_eq_zero_iff (l := g), ← List.length_eq_zero_iff (l := e)]
    omega
  have hnon : s ≠ [] → nonB f g e s = false := fun h => toB_false (fun q => h q.2.2.2)
  have hrest : ∀ x : Chg, s ≠ [] → (if (mkP f g s lost won).2 = true then (mkP f g s lost won).1 else if freB f g e s = true then Chg.n 6 (onlyI g) else if (takP f g s lost won).2 = true then (takP f g s lost won).1 else if (movP f g s lost won).2 = true then (movP f g s lost won).1 else x) = x := fun x h => by
    rw [not_tt (mk_not (.inr (.inl (fun q => h q.2)))), not_tt (fre_not (.inr (fun q => h q.2.2))), not_tt (tak_not (.inl (fun q => h q.2))), not_tt (mov_not (.inl (fun q => h q.2)))]
  have hmany : s ≠ [] → alI f g e s = 0 → prgL t u f g e s lost won = Chg.k 7 := fun h h2 => by
    unfold prgL
    rw [not_tt (hnon h), h2, not_tt (atr_zero t u), not_tt (dat_zero t u), hrest _ h]
  unfold ofD
  show _ = (if s.length = 1 ∧ f.length + g.length + e.length = 0 then aloneC (s.headD 0) (tget t (s.headD 0)) (tget u (s.headD 0)) else if s ≠ [] then Chg.k 7 else if f.length + g.length + e.length = 0 then Chg.zero
    else if f ≠ [] then (if f.length = 1 ∧ g = [] ∧ lost = [] ∧ won.length = 1 ∧ (won.headD Ech.zero).node = f.headD 0 then ⟨3, f.headD 0, (won.headD Ech.zero).dir, (won.headD Ech.zero).name, 0, [], 0⟩ else Chg.k 7)
    else if g.length = 1 ∧ e.length = 0 then Chg.n 6 (g.headD 0) else entsC ⟨f, g, s, e.length, lost, won⟩)
  by_cases h0 : s = []
  · subst h0
    rw [if_neg (show ¬ (([] : List Int).length = 1 ∧ f.length + g.length + e.length = 0) from fun q => absurd q.1 (by decide)), if_neg (show ¬ (([] : List Int) ≠ []) from fun q => q rfl)]
    have ha : alI f g e [] = 0 := alI_zero (.inl rfl)
    unfold prgL
    rw [ha, not_tt (atr_zero t u), not_tt (dat_zero t u)]
    by_cases h1 : f = [] ∧ g = [] ∧ e = []
    · rw [if_pos (show nonB f g e [] = true from toB_true ⟨h1.1, h1.2.1, h1.2.2, rfl⟩), if_pos (hsum.2 h1)]
    · rw [not_tt (show nonB f g e [] = false from toB_false (fun q => h1 ⟨q.1, q.2.1, q.2.2.1⟩)), if_neg (fun q => h1 (hsum.1 q))]
      by_cases h2 : f = []
      · subst h2
        rw [if_neg (show ¬ (([] : List Int) ≠ []) from fun q => q rfl), not_tt (mk_not (.inl rfl))]
        by_cases h3 : g.length = 1 ∧ e.length = 0
        · obtain ⟨x, rfl⟩ := one_of h3.1
          have hx := hg x (List.mem_singleton.2 rfl)
          rw [if_pos h3, if_pos (show freB [] [x] e [] = true from by
            unfold freB
            rw [toB_true ⟨rfl, List.length_eq_zero_iff.1 h3.2, rfl⟩]
            simpa [onlyI] using (by omega : x ≠ 0))]
          rfl
        · rw [if_neg h3, not_tt (fre_not (by
            by_cases h4 : g.length = 1
            · exact .inr (fun q => h3 ⟨h4, by rw [q.2.1]; rfl⟩)
            · exact .inl (only_nil h4)))]
          match won, hA with
          | [], _ =>
            rw [not_tt (mov_not (.inr (by decide)))]
            match lost with
            | [] => rw [not_tt (tak_not (.inr (.inl (by decide))))]; rfl
            | [a] =>
              have e1 : takP [] g [] [a] [] = (⟨4, a.node, a.dir, a.name, 0, [], 0⟩, !gbB g a.node) := by
                unfold takP
                rw [if_neg (fun q => by rcases q with q | q | q; exact q ⟨rfl, rfl⟩; exact q rfl; exact q rfl)]
                rfl
              rw [e1, gb_only hgs hg]
              rfl
            | a :: b :: l => rw [not_tt (tak_not (.inr (.inl (by simp))))]; cases l <;> rfl
          | [w], hA =>
            rw [not_tt (tak_not (.inr (.inr (fun q => by cases q))))]
            exact mv_is hgs hg hd (fun a ha => hA a ha w (List.mem_singleton.2 rfl)) hn rfl rfl
          | w :: v :: l, _ =>
            rw [not_tt (tak_not (.inr (.inr (fun q => by cases q)))), not_tt (mov_not (.inr (by simp)))]
            match lost with
            | [] => rfl
            | [a] => rfl
            | [a, b] => rfl
            | a :: b :: c :: m => rfl
      · rw [if_pos h2, not_tt (fre_not (.inr (fun q => h2 q.1))), not_tt (tak_not (.inl (fun q => h2 q.1))), not_tt (mov_not (.inl (fun q => h2 q.1)))]
        by_cases h3 : f.length = 1
        · obtain ⟨x, rfl⟩ := one_of h3
          have hx := hf x (List.mem_singleton.2 rfl)
          by_cases h4 : g = [] ∧ lost = [] ∧ won.length = 1
          · obtain ⟨rfl, rfl, h5⟩ := h4
            obtain ⟨w, rfl⟩ := one_of h5
            have e1 : mkP [x] [] [] [] [w] = (⟨3, x, w.dir, w.name, 0, [], 0⟩, w.node == x) := by
              unfold mkP
              rw [if_neg (fun q => by
                rcases q with q | q | q | q
                · have : x = 0 := q
                  omega
                · exact q ⟨rfl, rfl⟩
                · exact q rfl
                · exact q rfl)]
              rfl
            rw [e1]
            show (if (w.node == x) = true then _ else _) = (if _ ∧ _ ∧ _ ∧ _ ∧ w.node = x then _ else _)
            by_cases h6 : w.node = x
            · rw [if_pos (by simpa using h6)]
              exact (if_pos ⟨rfl, rfl, rfl, rfl, h6⟩).symm
            · rw [if_neg (by simpa using h6)]
              exact (if_neg (fun q => h6 q.2.2.2.2)).symm
          · rw [not_tt (mk_not (by
              by_cases q1 : g = []
              · by_cases q2 : lost = []
                · exact .inr (.inr (.inr (fun q3 => h4 ⟨q1, q2, q3⟩)))
                · exact .inr (.inr (.inl q2))
              · exact .inr (.inl (fun q => q1 q.1)))), if_neg (fun q => h4 ⟨q.2.1, q.2.2.1, q.2.2.2.1⟩)]
        · rw [not_tt (mk_not (.inl (only_nil h3))), if_neg (fun q => h3 q.1)]
  · by_cases h1 : s.length = 1 ∧ f.length + g.length + e.length = 0
    · rw [if_pos h1]
      obtain ⟨i, rfl⟩ := one_of h1.1
      have hi := hs i (List.mem_singleton.2 rfl)
      have h2 := hsum.1 h1.2
      have ha : alI f g e [i] = i := by unfold alI; rw [if_pos h2]; rfl
      unfold prgL
      rw [not_tt (hnon h0), ha, hrest _ h0]
      show _ = aloneC i (tget t i) (tget u i)
      unfold aloneC atrB
      have hne : (i != 0) = true := by simpa using (by omega : i ≠ 0)
      rw [hne, Bool.true_and, hal i rfl]
      split
      · rfl
      · by_cases q : (tget t i).kind = 1 ∧ toB ((⟨(tget t i).kind, (tget u i).mode, (tget t i).uid, (tget t i).gid, (tget u i).data, (tget t i).ents, (tget t i).target⟩ : Nd) = tget u i) = true
        · rw [if_pos (toB_true q), if_pos q]
        · rw [not_tt (toB_false q), if_neg q]
    · rw [if_neg h1, if_pos h0]
      refine hmany h0 (alI_zero ?_)
      by_cases h2 : s.length = 1
      · exact .inr (fun q => h1 ⟨h2, hsum.2 q⟩)
      · exact .inl (only_nil h2)
theorem dat_eq {t u : List Nd} (ht : okT t) (hu : okT u) (i : Int) : datB t u i = toB ((tget t i).kind = 1 ∧ toB ((⟨(tget t i).kind, (tget u i).mode, (tget t i).uid, (tget t i).gid, (tget u i).data, (tget t i).ents, (tget t i).target⟩ : Nd) = tget u i) = true) := by
  refine toB_congr ⟨fun h => ⟨h.1.1, toB_true ?_⟩, fun h => ?_⟩
  · have e1 : (tget t i).ents = [] := by
      rcases ok_tget ht i with q | q
      · rw [q]; rfl
      · exact right_other q (by rw [h.1.1]; decide)
    have e2 : (tget u i).ents = [] := by
      rcases ok_tget hu i with q | q
      · rw [q]; rfl
      · exact right_other q (by rw [h.1.2]; decide)
    obtain ⟨⟨h1, h2⟩, h3, h4, h5⟩ := h
    rw [e1, h1, h3, h4, h5]
    generalize tget u i = n at e2 h2 ⊢
    obtain ⟨k, m, a, b, d, l, g⟩ := n
    simp only at e2 h2
    rw [e2, h2]
  · have h2 := toB_iff.1 h.2
    exact ⟨⟨h.1, by rw [← h2]; exact h.1⟩, by rw [← h2], by rw [← h2], by rw [← h2]⟩
theorem prg_of {t u : List Nd} (ht : okT t) (hu : okT u) : prgC t u = ofC t u := by
  obtain ⟨n1, n2, n3, n4⟩ := num_eq (nz_ok ht) (nz_ok hu) idx24
  have hge : ∀ (f : Nat), ∀ i ∈ numL t u f idx24, 1 ≤ i := fun f i hi => (mem_idx24.1 (List.mem_filter.1 hi).1).1
  have hin : ∀ {a b : List Nd} {l : List Int} {e : Ech}, e ∈ justL a b l → e.dir ∈ l ∧ (e.name, e.node) ∈ (tget a e.dir).ents ∧ ¬ (e.name, e.node) ∈ (tget b e.dir).ents := fun {a b l e} he => by
    obtain ⟨i, h1, h2⟩ := List.mem_flatMap.1 he
    obtain ⟨x, h3, rfl⟩ := List.mem_map.1 h2
    obtain ⟨h4, h5⟩ := List.mem_filter.1 h3
    exact ⟨h1, h4, not_toB.1 h5⟩
  have h := lists_of (t := t) (u := u) (f := numL t u 1 idx24) (g := numL t u 2 idx24) (e := numL t u 3 idx24) (s := numL t u 4 idx24) (lost := justL t u (numL t u 3 idx24)) (won := justL u t (numL t u 3 idx24))
    (idx24_sorted.filter _) (hge 1) (hge 2) (hge 4) (fun e he => ⟨hge 3 _ (hin he).1, ok_pos ht (hin he).2.1⟩)
    (fun a ha w hw h1 h2 h3 => (hin ha).2.2 (by rw [h1, h2, h3]; exact (hin hw).2.1)) ?_ (fun i _ => dat_eq ht hu i)
  · unfold prgC
    rw [h]
    unfold ofC difT difL justL
    rw [n1, n2, n3, n4]
  · unfold justL
    rw [List.pairwise_flatMap]
    refine ⟨fun i _ => ?_, ?_⟩
    · unfold lessE
      rw [List.pairwise_map]
      refine List.Pairwise.filter _ ?_
      have h1 := rise_nodup (ok_ris ht i)
      unfold nmE at h1
      exact (List.pairwise_map.1 h1).imp (fun {a b} hab q => hab q.2)
    · refine (idx24_sorted.filter _).imp (fun {a b} hab x hx y hy q => ?_)
      obtain ⟨x', -, rfl⟩ := List.mem_map.1 hx
      obtain ⟨y', -, rfl⟩ := List.mem_map.1 hy
      have : a = b := q.1
      omega
end Go.Proofs.YtnkjaocmfhjnoaaGreat
namespace Go.Proofs.YtnkjaocmfhjnoaaGreat
open Go Go.RowKit
set_option maxRecDepth 100000

def xCells (l : List Ech) : List Value := l.flatMap (fun e => [.int .i64 e.dir, .string (bA e.name), .int .i64 e.node])
theorem xCells_snoc (l : List Ech) (e : Ech) : xCells l ++ [.int .i64 e.dir, .string (bA e.name), .int .i64 e.node] = xCells (l ++ [e]) := by unfold xCells; rw [List.flatMap_append]; rfl
theorem ech_one (e : Ech) : ∀ u ∈ [Value.int .i64 e.dir, .string (bA e.name), .int .i64 e.node], u.oneCell' = true := fun u hu => by
  simp only [List.mem_cons, List.not_mem_nil, or_false] at hu
  rcases hu with rfl | rfl | rfl <;> rfl
theorem xCells_at : ∀ (l : List Ech) (k : Nat) (e : Ech), l[k]? = some e → (xCells l)[k * 3]? = some (.int .i64 e.dir) ∧ (xCells l)[k * 3 + 1]? = some (.string (bA e.name)) ∧ (xCells l)[k * 3 + 2]? = some (.int .i64 e.node)
  | [], k, e, h => by simp at h
  | x :: l, 0, e, h => by
    simp only [List.getElem?_cons_zero, Option.some.injEq] at h
    subst h
    exact ⟨rfl, rfl, rfl⟩
  | x :: l, k + 1, e, h => by
    have := xCells_at l k e (by simpa using h)
    rw [show (k + 1) * 3 = k * 3 + 3 by omega]
    exact this
def EchR (w : World) (v : Value) (l : List Ech) : Prop := ∃ A c, v = .slice A l.length c ∧ ∀ (k : Nat) (e : Ech), l[k]? = some e → ∃ ad : Addr, A = some ad ∧
  w.cell? (ad.add (k * 3)) = some (.int .i64 e.dir) ∧ w.cell? ⟨(ad.add (k * 3)).block, (ad.add (k * 3)).off + 1, none⟩ = some (.string (bA e.name)) ∧ w.cell? ⟨(ad.add (k * 3)).block, (ad.add (k * 3)).off + 2, none⟩ = some (.int .i64 e.node)
theorem EchR.below {w w' : World} {v : Value} {l : List Ech} (h : EchR w v l) (hb : Below w.heap.size w w') : EchR w' v l := by
  obtain ⟨A, c, hv, hc⟩ := h
  refine ⟨A, c, hv, fun k a hk => ?_⟩
  obtain ⟨ad, hA, h0, h1, h2⟩ := hc k a hk
  exact ⟨ad, hA, bc hb h0, bc hb h1, bc hb h2⟩
theorem EchR.nil (w : World) : EchR w (.slice none 0 0) [] := ⟨none, 0, rfl, fun k s h => by simp at h⟩
theorem ech_get {w : World} {A : Option Addr} {n c : Nat} {l : List Ech} (h : EchR w (.slice A n c) l) {k : Nat} {e : Ech} (hk : l[k]? = some e) : ∃ ad : Addr, A = some ad ∧
    w.cell? (ad.add (k * 3)) = some (.int .i64 e.dir) ∧ w.cell? ⟨(ad.add (k * 3)).block, (ad.add (k * 3)).off + 1, none⟩ = some (.string (bA e.name)) ∧ w.cell? ⟨(ad.add (k * 3)).block, (ad.add (k * 3)).off + 2, none⟩ = some (.int .i64 e.node) := by
  obtain ⟨A', c', hv, hc⟩ := h
  injection hv with hA
  subst hA
  exact hc k e hk
theorem EchR.of_own {w : World} {B : Nat} {e : TypeId} {v : Value} {l : List Ech} (h : w.ownsRow B e 3 v l.length (xCells l)) : EchR w v l := by
  rcases h.2 with ⟨rfl, hn⟩ | ⟨g, cap, cur, rfl, _⟩
  · have : l = [] := List.eq_nil_of_length_eq_zero hn
    subst this
    exact EchR.nil w
  · refine ⟨some ⟨g, 0, none⟩, cap, rfl, fun k a hk => ⟨_, rfl, ?_⟩⟩
    obtain ⟨h0, h1, h2⟩ := xCells_at l k a hk
    rw [add_lit]
    exact ⟨row_at h _ _ h0, row_at h _ _ h1, row_at h _ _ h2⟩
abbrev chC (c : Chg) : Array Value := #[.int .i64 c.kind, .int .i64 c.node, .int .i64 c.dir, .string (bA c.name), .int .i64 c.to, .string (bA c.other), .int .i64 c.over]
abbrev chZ : Array Value := #[.int .i64 0, .int .i64 0, .int .i64 0, .string ⟨#[]⟩, .int .i64 0, .string ⟨#[]⟩, .int .i64 0]
abbrev dfC (vb va : Value) (A : Nat → Option Addr) (C : Nat → Nat) (N : Nat → List Int) (A5 : Option Addr) (c5 : Nat) (lost : List Ech) (A6 : Option Addr) (c6 : Nat) (won : List Ech) : Array Value :=
  #[vb, va, .slice (A 0) (N 0).length (C 0), .slice (A 1) (N 1).length (C 1), .slice (A 2) (N 2).length (C 2), .slice (A 3) (N 3).length (C 3), .slice (A 4) (N 4).length (C 4), .slice A5 lost.length c5, .slice A6 won.length c6]
structure DfR (w : World) (vb va : Value) (A : Nat → Option Addr) (C : Nat → Nat) (N : Nat → List Int) (A5 : Option Addr) (c5 : Nat) (lost : List Ech) (A6 : Option Addr) (c6 : Nat) (won : List Ech) (t u : List Nd) : Prop where
  tb : TabP w vb t
  ta : TabP w va u
  num : ∀ k, k < 5 → IntsR w (.slice (A k) (N k).length (C k)) (N k)
  few : ∀ k, k < 5 → (N k).length ≤ 24
  lo : EchR w (.slice A5 lost.length c5) lost
  wo : EchR w (.slice A6 won.length c6) won
  flo : lost.length ≤ 1000
  fwo : won.length ≤ 1000
theorem DfR.below {w w' : World} {vb va : Value} {A : Nat → Option Addr} {C : Nat → Nat} {N : Nat → List Int} {A5 : Option Addr} {c5 : Nat} {lost : List Ech} {A6 : Option Addr} {c6 : Nat} {won : List Ech} {t u : List Nd} (h : DfR w vb va A C N A5 c5 lost A6 c6 won t u) (hb : Below w.heap.size w w') : DfR w' vb va A C N A5 c5 lost A6 c6 won t u :=
  ⟨h.tb.below hb, h.ta.below hb, fun k hk => (h.num k hk).below hb, h.few, h.lo.below hb, h.wo.below hb, h.flo, h.fwo⟩
end Go.Proofs.YtnkjaocmfhjnoaaGreat
