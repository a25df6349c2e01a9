/-
  What PruneMoved and PruneSticky ask for, all in one; plain mathematics. The conditions are said at each.
-/
import Derived.Test.YtiimdmbalnhmmaaGreatPrQ
namespace Go.Proofs.YtiimdmbalnhmmaaGreat
open Go Go.RowKit
set_option maxRecDepth 100000

/-- A path to an entry that is found. -/
theorem ent_sta {t : List Nd} (h : Tre t) {c : Wh} {p : Nm} (h1 : (resM t c p false).2 = 0) (E : Ent t (resM t c p false).1) (hi : (resM t c p false).1.node ≠ 0) : staM t c p false = (staT t (resM t c p false).1.node, 0) ∧ (staM t c p false).1.node = (resM t c p false).1.node := by
  have ht := (here_found h E.found hi).1
  have e : staM t c p false = (staT t (resM t c p false).1.node, 0) := staF_good h1 ht
  exact ⟨e, by rw [e]; exact sta_node ht⟩
theorem none_sta {t : List Nd} {c : Wh} {p : Nm} (h1 : (resM t c p false).2 = 0) (hi : (resM t c p false).1.node = 0) : (staM t c p false).2 ≠ 0 := by
  unfold staM staF
  rw [if_neg (fun q => q h1), hi, zero_tis, if_neg (by decide)]
  decide
structure Movd (t T : List Nd) (c : Wh) (p q : Nm) (A B : Sta × Int) : Prop where
  good : A.2 = 0
  same : B.2 = 0 → A.1.node = B.1.node → T = t
  node : ¬ (B.2 = 0 ∧ A.1.node = B.1.node) → tget T A.1.node = tget t A.1.node ∧ linkT T A.1.node = linkT t A.1.node
  over : ¬ (B.2 = 0 ∧ A.1.node = B.1.node) → B.2 = 0 → linkT T B.1.node + 1 = linkT t B.1.node
  back : B.2 ≠ 0 → mvE T c (resM T c q false) (resM T c p false) = 0 → mvT T c (resM T c q false) (resM T c p false) [] = t
theorem moved_all {t : List Nd} (h : Tre t) {c : Wh} {p q : Nm} (hz : mvE t c (resM t c p false) (resM t c q false) = 0) : Movd t (mvT t c (resM t c p false) (resM t c q false) []) c p q (staM t c p false) (staM t c q false) := by
  obtain ⟨z1, z2, z3⟩ := mv_zero hz
  obtain ⟨E, hi⟩ := fn_ent h.ok z1
  obtain ⟨sA, nA⟩ := ent_sta h (fn_zero.1 z1).1 E hi
  have hA : (staM t c p false).2 = 0 := by rw [sA]
  by_cases hne : (resM t c q false).1.node = (resM t c p false).1.node
  · have hT : mvT t c (resM t c p false) (resM t c q false) [] = t := if_pos (.inr hne)
    have hqn : (resM t c q false).1.node ≠ 0 := by rw [hne]; exact hi
    have hti : tis t (resM t c q false).1.node = true := by rw [hne]; exact (here_found h E.found hi).1
    have sB : staM t c q false = (staT t (resM t c q false).1.node, 0) := staF_good z2 hti
    have nB : (staM t c q false).1.node = (resM t c q false).1.node := by rw [sB]; exact sta_node hti
    have hB : (staM t c q false).2 = 0 := by rw [sB]
    rw [hT]
    exact ⟨hA, fun _ _ => rfl, fun z => absurd ⟨hB, by rw [nA, nB, hne]⟩ z, fun z => absurd ⟨hB, by rw [nA, nB, hne]⟩ z, fun z => absurd hB z⟩
  · have hT : mvT t c (resM t c p false) (resM t c q false) [] = frT (mv3 t (resM t c p false).1.dir (resM t c p false).1.name (resM t c p false).1.node (resM t c q false).1.dir (resM t c q false).1.name (resM t c q false).1.node) (resM t c q false).1.node [] := if_neg (fun z => z.elim (fun y => y hz) hne)
    obtain ⟨-, G, m, b1, b2⟩ := mv_facts h hz hne
    obtain ⟨hk, hl⟩ := tre_move h m E.found hi G.kind G.found b1 b2
    obtain ⟨y1, -, -, y4, -⟩ := mvY_zero z3 hne
    rw [hT]
    have hB : (staM t c q false).2 = 0 → (resM t c q false).1.node ≠ 0 ∧ (staM t c q false).1.node = (resM t c q false).1.node := fun z => by
      have hq : (resM t c q false).1.node ≠ 0 := fun y => none_sta z2 y z
      exact ⟨hq, (ent_sta h z2 G hq).2⟩
    have hlk : ∀ j, linkT (frT (mv3 t (resM t c p false).1.dir (resM t c p false).1.name (resM t c p false).1.node (resM t c q false).1.dir (resM t c q false).1.name (resM t c q false).1.node) (resM t c q false).1.node []) j + (if (resM t c q false).1.node ≠ 0 ∧ (resM t c q false).1.node = j then 1 else 0) = linkT t j := fun j => by rw [hl]; exact m.link j
    have hback : (resM t c q false).1.node = 0 → frT (mv3 t (resM t c p false).1.dir (resM t c p false).1.name (resM t c p false).1.node (resM t c q false).1.dir (resM t c q false).1.name (resM t c q false).1.node) (resM t c q false).1.node [] = mv3 t (resM t c p false).1.dir (resM t c p false).1.name (resM t c p false).1.node (resM t c q false).1.dir (resM t c q false).1.name 0 := fun z => by rw [z, fr_zero]
    have hiD : (resM t c p false).1.node ≠ (resM t c q false).1.dir := fun z => by
      have hk2 : (tget t (resM t c p false).1.node).kind = 2 := by rw [z]; exact G.kind
      exact b1 hk2 0 z.symm
    have hid : (resM t c p false).1.node ≠ (resM t c p false).1.dir := fun z => by
      have hk2 : (tget t (resM t c p false).1.node).kind = 2 := by rw [z]; exact E.kind
      have hp := tre_par h hk2 hi E.found
      rw [← z] at hp
      obtain ⟨a, ha⟩ := h.root _ hk2
      have hall : ∀ a, itr (parF t) a (resM t c p false).1.node = (resM t c p false).1.node := fun a => by
        induction a with
        | zero => rfl
        | succ a ih =>
          show itr (parF t) a (parF t _) = _
          rw [hp]
          exact ih
      rw [hall] at ha
      exact (here_found h E.found hi).2.1 ha
    refine ⟨hA, fun z1 z2 => ?_, fun _ => ⟨?_, ?_⟩, fun z1 z2 => ?_, fun zB zz => ?_⟩
    · exact absurd ((hB z1).2.symm.trans (z2.symm.trans nA)) hne
    · rw [nA]
      have h3 : tget (mv3 t (resM t c p false).1.dir (resM t c p false).1.name (resM t c p false).1.node (resM t c q false).1.dir (resM t c q false).1.name (resM t c q false).1.node) (resM t c p false).1.node = tget t (resM t c p false).1.node := m.other _ hid hiD
      rw [← h3]
      unfold frT
      split
      · rename_i z
        have hk1 : 1 ≤ (resM t c q false).1.node ∧ (resM t c q false).1.node ≤ (mv3 t (resM t c p false).1.dir (resM t c p false).1.name (resM t c p false).1.node (resM t c q false).1.dir (resM t c q false).1.name (resM t c q false).1.node).length := by
          unfold frB at z
          simp only [Bool.and_eq_true] at z
          exact tis_in z.2.2.2
        rw [tget_set hk1, if_neg (fun y => hne y.symm)]
      · rfl
    · have h1 := hlk (staM t c p false).1.node
      rw [if_neg (fun z => hne (z.2.trans nA))] at h1
      exact h1
    · obtain ⟨g1, g2⟩ := hB z2
      have h1 := hlk (staM t c q false).1.node
      rw [if_pos ⟨g1, g2.symm⟩] at h1
      exact h1
    · have hk0 : (resM t c q false).1.node = 0 := Classical.byContradiction (fun y => zB (by rw [(ent_sta h z2 G y).1]))
      rw [hback hk0] at zz ⊢
      rw [hk0] at m
      have fN : fnd (tget t (resM t c q false).1.dir).ents (resM t c q false).1.name = 0 := by rw [G.found, hk0]
      obtain ⟨w1, w2, w3⟩ := mv_zero zz
      obtain ⟨v1, v2, v3, -, -⟩ := fn_zero.1 w1
      rcases res_seen h m E.kind E.found hi fN z2 with y | y
      · exact absurd v1 y
      rcases res_seen h m E.kind E.found hi fN (fn_zero.1 z1).1 with x | x
      · exact absurd w2 x
      have e1 : seen (resM t c p false).1.dir (resM t c p false).1.name (resM t c p false).1.node (resM t c q false).1.dir (resM t c q false).1.name (resM t c q false).1 = ⟨(resM t c q false).1.dir, (resM t c q false).1.name, (resM t c p false).1.node⟩ := by
        unfold seen
        rw [if_neg y1, if_pos ⟨rfl, rfl⟩]
      have hpn := (fn_zero.1 z1).2.2.1
      have hnn : ¬ ((resM t c p false).1.dir = (resM t c q false).1.dir ∧ (resM t c p false).1.name = (resM t c q false).1.name) := fun y => hi (by rw [← E.found, y.1, y.2]; exact fN)
      have e2 : seen (resM t c p false).1.dir (resM t c p false).1.name (resM t c p false).1.node (resM t c q false).1.dir (resM t c q false).1.name (resM t c p false).1 = ⟨(resM t c p false).1.dir, (resM t c p false).1.name, 0⟩ := by
        unfold seen
        rw [if_neg hpn, if_neg hnn, if_pos ⟨rfl, rfl⟩]
      rw [e1] at y
      rw [e2] at x
      rw [y, x] at zz ⊢
      unfold mvT
      rw [if_neg (fun u => u.elim (fun r => r zz) (fun r => hi r.symm))]
      show frT (mv3 _ _ _ _ _ _ 0) 0 [] = t
      rw [fr_zero]
      exact move_back h.ok E.kind E.found hi G.kind fN E.nam G.nam (y4 hk0)
/-- What was taken away, was theirs. -/
theorem stk_why {t : List Nd} {c : Wh} {F : Fo} (hu : c.u ≠ 0) (h : stkB t c F = true) : ¬ (bits .and .i64 (tget t F.dir).mode 512 ≠ 0 ∧ (tget t F.dir).uid ≠ c.u ∧ (tget t F.node).uid ≠ c.u) := fun q => by
  unfold stkB at h
  simp only [Bool.or_eq_true, beq_iff_eq] at h
  rcases h with ((h | h) | h) | h
  · exact hu h
  · exact q.1 h
  · exact q.2.1 h
  · exact q.2.2 h
theorem fr_get {t : List Nd} (k j : Int) (op : List Int) : tget (frT t k op) j = tget t j ∨ (j = k ∧ tget (frT t k op) j = Nd.zero ∧ frB t k op = true) := by
  unfold frT
  split
  · rename_i z
    have hk1 : 1 ≤ k ∧ k ≤ t.length := by
      unfold frB at z
      simp only [Bool.and_eq_true] at z
      exact tis_in z.2.2.2
    rw [tget_set hk1]
    by_cases q : j = k
    · rw [if_pos q]
      exact .inr ⟨q, rfl, z⟩
    · rw [if_neg q]
      exact .inl rfl
  · exact .inl rfl
theorem stk_ul {t : List Nd} (h : Tre t) {c : Wh} {p : Nm} (hu : c.u ≠ 0) (hz : ulE t c (resM t c p false) = 0) {j : Int} {e : En} (he : e ∈ (tget t j).ents) (hf : fnd (tget (ulT t c (resM t c p false) []) j).ents e.1 ≠ e.2) :
    ¬ (bits .and .i64 (tget t j).mode 512 ≠ 0 ∧ (tget t j).uid ≠ c.u ∧ (tget t e.2).uid ≠ c.u) := by
  obtain ⟨h1, h2⟩ := ul_zero hz
  obtain ⟨E, hi⟩ := fn_ent h.ok h1
  have hs := stk_why hu (fn_zero.1 h1).2.2.2.2
  unfold ulT at hf
  rw [if_pos hz] at hf
  generalize (resM t c p false).1 = F at E hi h2 hs hf
  have hc := cut_is h.ok E.kind E.found hi
  have hat := fnd_at (ok_ris h.ok j) he
  by_cases q : j = F.dir ∧ e.1 = F.name
  · have e2 : e.2 = F.node := by rw [← hat, q.1, q.2]; exact E.found
    rw [e2, q.1]
    exact hs
  · have h3 := cut_fnd h.ok hc j e.1
    rw [if_neg q, hat] at h3
    rcases fr_get (t := cutT t F.dir F.name) F.node j [] with z | ⟨z, -, -⟩
    · rw [z] at hf
      exact absurd h3 hf
    · rw [z, ok_leaf h.ok h2] at he
      cases he
theorem stk_mv {t : List Nd} (h : Tre t) {c : Wh} {p q : Nm} (hu : c.u ≠ 0) (hz : mvE t c (resM t c p false) (resM t c q false) = 0) {j : Int} {e : En} (he : e ∈ (tget t j).ents) (hf : fnd (tget (mvT t c (resM t c p false) (resM t c q false) []) j).ents e.1 ≠ e.2) :
    ¬ (bits .and .i64 (tget t j).mode 512 ≠ 0 ∧ (tget t j).uid ≠ c.u ∧ (tget t e.2).uid ≠ c.u) := by
  have hat := fnd_at (ok_ris h.ok j) he
  unfold mvT at hf
  by_cases hne : (resM t c q false).1.node = (resM t c p false).1.node
  · rw [if_pos (.inr hne)] at hf
    exact absurd hat hf
  rw [if_neg (fun z => z.elim (fun y => y hz) hne)] at hf
  obtain ⟨⟨E, hi⟩, G, m, b1, b2⟩ := mv_facts h hz hne
  obtain ⟨z1, z2, z3⟩ := mv_zero hz
  have hs := stk_why hu (fn_zero.1 z1).2.2.2.2
  obtain ⟨-, -, -, -, y5⟩ := mvY_zero z3 hne
  generalize (resM t c p false).1 = F at E hi hs hf m b1 b2 hne y5
  generalize (resM t c q false).1 = G' at G m b2 hf y5 hne
  by_cases q1 : j = F.dir ∧ e.1 = F.name
  · have e2 : e.2 = F.node := by rw [← hat, q1.1, q1.2]; exact E.found
    rw [e2, q1.1]
    exact hs
  by_cases q2 : j = G'.dir ∧ e.1 = G'.name
  · have e2 : e.2 = G'.node := by rw [← hat, q2.1, q2.2]; exact G.found
    have hk : G'.node ≠ 0 := by
      rw [← e2]
      have := ok_pos h.ok he
      omega
    rw [e2, q2.1]
    exact stk_why hu (y5 hk).1
  have h3 := m.fnd j e.1
  rw [if_neg q2, if_neg q1, hat] at h3
  rcases fr_get (t := mv3 t F.dir F.name F.node G'.dir G'.name G'.node) G'.node j [] with z | ⟨z, -, hb⟩
  · rw [z] at hf
    exact absurd h3 hf
  · by_cases hk : G'.node = 0
    · rw [hk] at hb
      unfold frB at hb
      rw [zero_tis] at hb
      simp at hb
    · rw [z, (b2 hk).2] at he
      cases he
end Go.Proofs.YtiimdmbalnhmmaaGreat
