/-
  A tree stays one, whatever is moved; what PruneTree asks for; plain mathematics. The conditions are said at each.
-/
import Derived.Test.YtiimdmbalnhmmaaGreatPrO
namespace Go.Proofs.YtiimdmbalnhmmaaGreat
open Go Go.RowKit
set_option maxRecDepth 100000

/-- A tree behind a change: no node is won, and one is lost at most. -/
structure Kept (t t' : List Nd) : Prop where
  tre : Tre t'
  used : usedT t' ≤ usedT t ∧ usedT t ≤ usedT t' + 1
  head : ∀ j, tis t' j = true → tis t j = true ∧ noE (tget t' j) = noE (tget t j)
  len : t'.length = t.length
theorem here_found {t : List Nd} (h : Tre t) {d i : Int} {n : Nm} (hf : fnd (tget t d).ents n = i) (hi : i ≠ 0) : tis t i = true ∧ i ≠ 1 ∧ (tget t d).ents ≠ [] := by
  obtain ⟨e, he, -, h2⟩ := fnd_some (fnd_mem (l := (tget t d).ents) (n := n) (by rw [hf]; exact hi))
  rw [hf] at h2
  have hl := link_mem he h2.symm
  refine ⟨by rw [h2]; exact h.here d e he, fun q => hl (by rw [q]; exact h.top), fun q => ?_⟩
  rw [q] at he
  cases he
theorem move_root {t t3 : List Nd} (h : Tre t) {d i D k : Int} {n N : Nm} (m : Mv3 t t3 d n i D N k) (fn : fnd (tget t d).ents n = i) (hi : i ≠ 0) (kD : (tget t D).kind = 2) (fN : fnd (tget t D).ents N = k)
    (hdir : (tget t i).kind = 2 → ∀ a, itr (parF t) a D ≠ i) (hke : (tget t k).ents = []) : ∀ j, (tget t j).kind = 2 → j ≠ k → ∃ a, itr (parF t3) a j = 1 := fun j hj hjk => by
  obtain ⟨a, ha⟩ := h.root j hj
  by_cases hk : (tget t i).kind = 2
  · have hD : ∃ a, itr (parF t3) a D = 1 := by
      obtain ⟨b, hb⟩ := h.root D kD
      refine ⟨b, root_off (A := fun x => x = i ∨ x = k) (fun x hx => m.par x (fun q => hx (.inl q)) (fun q => hx (.inr q))) b D (fun x hx q => ?_) hb⟩
      rcases q with q | q
      · exact hdir hk x q
      · by_cases hk0 : k = 0
        · have e1 := itr_add (parF t) x (b - x) D
          rw [show x + (b - x) = b by omega, hb, q, hk0, itr_zero (parF_zero h.ok)] at e1
          exact absurd e1 (by decide)
        · cases x with
          | zero =>
            have q' : D = k := q
            exact (here_found h fN hk0).2.2 (by rw [q']; exact hke)
          | succ x =>
            rw [itr_succ] at q
            have h3 := (par_dir h.ok (j := itr (parF t) x D) (by rw [q]; exact hk0)).2
            rw [q, hke] at h3
            exact h3 rfl
    have hl := h.dir i hk (here_found h fn hi).2.1
    exact root_move h.ok m.par hke (m.own hl) hD a j hjk ha
  · refine root_keep h.ok (A := fun x => x = i ∨ x = k) (fun x hx => m.par x (fun q => hx (.inl q)) (fun q => hx (.inr q))) (fun x hx => ?_) a j (fun q => q.elim (fun z => hk (by rw [← z]; exact hj)) hjk) ha
    rcases hx with z | z
    · rw [z]; exact ok_leaf h.ok hk
    · rw [z]; exact hke
theorem fr_zero {t : List Nd} (op : List Int) : frT t 0 op = t := by
  have e : frB t 0 op = false := by unfold frB; rw [zero_tis]; simp
  unfold frT
  rw [e, if_neg (by decide)]
theorem fr_other {t : List Nd} {k : Int} (h1 : k ≠ 1) (hi : tis t k = true) : frT t k [] = if linkT t k = 0 then setT t k Nd.zero else t := by
  unfold frT frB
  rw [hi, decide_eq_true h1]
  by_cases q : linkT t k = 0
  · rw [if_pos q, decide_eq_true q]
    rfl
  · rw [if_neg q, decide_eq_false q]
    rfl
theorem tre_move {t t3 : List Nd} (h : Tre t) {d i D k : Int} {n N : Nm} (m : Mv3 t t3 d n i D N k) (fn : fnd (tget t d).ents n = i) (hi : i ≠ 0) (kD : (tget t D).kind = 2) (fN : fnd (tget t D).ents N = k)
    (hdir : (tget t i).kind = 2 → ∀ a, itr (parF t) a D ≠ i) (hkk : k ≠ 0 → ((tget t i).kind = 2 ↔ (tget t k).kind = 2) ∧ (tget t k).ents = []) : Kept t (frT t3 k []) ∧ ∀ j, linkT (frT t3 k []) j = linkT t3 j := by
  have hke : (tget t k).ents = [] := by
    by_cases q : k = 0
    · exact ok_leaf h.ok (by rw [q, zero_kind]; decide)
    · exact (hkk q).2
  have hroot := move_root h m fn hi kD fN hdir hke
  have hkd : ∀ j, (tget t3 j).kind = (tget t j).kind := fun j => kind_noE (m.head j)
  have hti := (here_found h fn hi).1
  have htop : linkT t3 1 = 0 := by
    have h1 := m.link 1
    rw [h.top] at h1
    omega
  have hhere : ∀ (j : Int) (e : En), e ∈ (tget t3 j).ents → tis t3 e.2 = true := fun j e he => by
    rw [tis_noE (m.head e.2)]
    rcases m.mem j e he with q | q
    · exact h.here j e q
    · rw [q]; exact hti
  have stay : (k ≠ 0 → linkT t3 k ≠ 0) → Kept t t3 := fun hl => by
    have hjk : ∀ j, (tget t j).kind = 2 → j ≠ k := fun j hj q => by
      by_cases hk0 : k = 0
      · rw [q, hk0, zero_kind] at hj
        exact absurd hj (by decide)
      · have h1 := h.dir j hj (by rw [q]; exact (here_found h fN hk0).2.1)
        have h2 := m.link k
        have e5 : (if k ≠ 0 ∧ k = k then 1 else 0) = 1 := if_pos ⟨hk0, rfl⟩
        rw [q] at h1
        have := hl hk0
        omega
    refine ⟨⟨m.ok, by rw [m.len]; exact h.le, by rw [hkd]; exact h.one, htop, hhere, fun j hj hne => ?_, fun j hj hne => ?_, fun j hj => ?_⟩, ⟨by rw [m.used]; exact Nat.le_refl _, by rw [m.used]; exact Nat.le_succ _⟩, fun j hj => ⟨by rw [← tis_noE (m.head j)]; exact hj, m.head j⟩, m.len⟩
    · have h1 := m.link j
      have h2 := h.file j (by rw [← tis_noE (m.head j)]; exact hj) hne
      by_cases q : k ≠ 0 ∧ k = j
      · have := hl q.1
        rw [q.2] at this
        omega
      · rw [if_neg q] at h1
        omega
    · have hj' : (tget t j).kind = 2 := by rw [← hkd]; exact hj
      have h1 := m.link j
      have h2 := h.dir j hj' hne
      rw [if_neg (fun q => hjk j hj' q.2.symm)] at h1
      omega
    · have hj' : (tget t j).kind = 2 := by rw [← hkd]; exact hj
      exact hroot j hj' (hjk j hj')
  by_cases hk0 : k = 0
  · subst hk0
    rw [fr_zero]
    exact ⟨stay (fun q => absurd rfl q), fun _ => rfl⟩
  obtain ⟨t1, t2, t4⟩ := here_found h fN hk0
  have htk : tis t3 k = true := by rw [tis_noE (m.head k)]; exact t1
  rw [fr_other t2 htk]
  by_cases hl : linkT t3 k = 0
  · rw [if_pos hl]
    have kd' : k ≠ d := fun q => (here_found h fn hi).2.2 (by rw [← q]; exact hke)
    have kD' : k ≠ D := fun q => t4 (by rw [← q]; exact hke)
    have hd := drp_is m.ok htk (by rw [m.other k kd' kD']; exact hke)
    generalize setT t3 k Nd.zero = T at hd ⊢
    have hk2 : ∀ j, j ≠ k → (tget T j).kind = (tget t j).kind := fun j hj => by rw [hd.get j, if_neg hj, hkd]
    have hni : ∀ j, (tget T j).kind ≠ 0 → j ≠ k := fun j hj q => by
      rw [hd.get j, if_pos q] at hj
      exact hj rfl
    have hlk : ∀ j, j ≠ k → linkT T j = linkT t j := fun j hj => by
      have h1 := m.link j
      rw [if_neg (fun q => hj q.2.symm)] at h1
      rw [hd.link]
      omega
    refine ⟨⟨⟨hd.ok, by rw [hd.len, m.len]; exact h.le, by rw [hk2 1 (fun q => t2 q.symm)]; exact h.one, by rw [hd.link]; exact htop, fun j e he => ?_, fun j hj hne => ?_, fun j hj hne => ?_, fun j hj => ?_⟩, ?_, fun j hj => ?_, by rw [hd.len, m.len]⟩, hd.link⟩
    · have hj : j ≠ k := fun q => by
        rw [hd.get j, if_pos q] at he
        cases he
      rw [hd.get j, if_neg hj] at he
      have hek : e.2 ≠ k := fun q => link_mem he q hl
      have h1 := hhere j e he
      unfold tis at h1 ⊢
      rw [hd.get e.2, if_neg hek]
      exact h1
    · have hjk := hni j (of_decide_eq_true hj)
      rw [hlk j hjk]
      exact h.file j (by unfold tis at hj ⊢; rw [hk2 j hjk] at hj; exact hj) hne
    · have hjk := hni j (by rw [hj]; decide)
      rw [hlk j hjk]
      exact h.dir j (by rw [← hk2 j hjk]; exact hj) hne
    · have hjk := hni j (by rw [hj]; decide)
      obtain ⟨a, ha⟩ := hroot j (by rw [← hk2 j hjk]; exact hj) hjk
      have e : parF T = parF t3 := funext hd.par
      exact ⟨a, by rw [e]; exact ha⟩
    · have h1 := hd.used
      rw [m.used] at h1
      exact ⟨by omega, by omega⟩
    · have hjk := hni j (of_decide_eq_true hj)
      have e : noE (tget T j) = noE (tget t j) := by rw [hd.get j, if_neg hjk]; exact m.head j
      exact ⟨by rw [← tis_noE e]; exact hj, e⟩
  · rw [if_neg hl]
    exact ⟨stay (fun _ => hl), fun _ => rfl⟩

/-! What the three calls leave. -/
theorem kept_refl {t : List Nd} (h : Tre t) : Kept t t := ⟨h, ⟨Nat.le_refl _, Nat.le_succ _⟩, fun _ hj => ⟨hj, rfl⟩, rfl⟩
theorem kept_drop {t t1 t2 : List Nd} (h : Tre t) {d : Int} {n : Nm} {i : Int} (hc : Cut t t1 d n i) (he : (tget t i).ents = []) (h1 : i ≠ 1) (hl : linkT t1 i = 0) (hd : Drq t1 t2 i) : Kept t t2 := by
  refine ⟨tre_drop h hc he h1 hl hd, ?_, fun j hj => ?_, by rw [hd.len, hc.len]⟩
  · have h2 := hd.used
    rw [hc.used] at h2
    exact ⟨by omega, by omega⟩
  · have hji : j ≠ i := fun q => by
      unfold tis at hj
      rw [hd.get j, if_pos q] at hj
      cases hj
    have e : noE (tget t2 j) = noE (tget t j) := by rw [hd.get j, if_neg hji]; exact hc.head j
    exact ⟨by rw [← tis_noE e]; exact hj, e⟩
theorem ul_zero {t : List Nd} {c : Wh} {R : Fo × Int} (h : ulE t c R = 0) : fnE t c R = 0 ∧ (tget t R.1.node).kind ≠ 2 := by
  unfold ulE at h
  by_cases q : fnE t c R = 0
  · rw [if_neg (fun z => z q)] at h
    refine ⟨q, fun z => ?_⟩
    rw [if_pos z] at h
    exact absurd h (by decide)
  · rw [if_pos q] at h
    exact absurd h q
theorem rd_zero {t : List Nd} {c : Wh} {R : Fo × Int} (h : rdE t c R = 0) : fnE t c R = 0 ∧ (tget t R.1.node).kind = 2 ∧ (tget t R.1.node).ents = [] := by
  unfold rdE at h
  by_cases q : fnE t c R = 0
  · rw [if_neg (fun z => z q)] at h
    by_cases q2 : (tget t R.1.node).kind = 2
    · rw [if_neg (fun z => z q2)] at h
      refine ⟨q, q2, Classical.byContradiction (fun z => ?_)⟩
      rw [if_pos z] at h
      exact absurd h (by decide)
    · rw [if_pos q2] at h
      exact absurd h (by decide)
  · rw [if_pos q] at h
    exact absurd h q
theorem mv_zero {t : List Nd} {c : Wh} {R S : Fo × Int} (h : mvE t c R S = 0) : fnE t c R = 0 ∧ S.2 = 0 ∧ mvY t c R.1.node R.1.dir S.1 = 0 := by
  unfold mvE at h
  by_cases q : fnE t c R = 0
  · rw [if_neg (fun z => z q)] at h
    by_cases q2 : S.2 = 0
    · rw [if_neg (fun z => z q2)] at h
      exact ⟨q, q2, h⟩
    · rw [if_pos q2] at h
      exact absurd h q2
  · rw [if_pos q] at h
    exact absurd h q
theorem ul_kept {t : List Nd} (h : Tre t) {c : Wh} {p : Nm} : Kept t (ulT t c (resM t c p false) []) ∧ (ulE t c (resM t c p false) ≠ 0 → ulT t c (resM t c p false) [] = t) := by
  unfold ulT
  by_cases hz : ulE t c (resM t c p false) = 0
  · rw [if_pos hz]
    refine ⟨?_, fun q => absurd hz q⟩
    obtain ⟨h1, h2⟩ := ul_zero hz
    obtain ⟨E, hi⟩ := fn_ent h.ok h1
    generalize (resM t c p false).1 = F at E hi h2
    have hc := cut_is h.ok E.kind E.found hi
    obtain ⟨g1, g2, -⟩ := here_found h E.found hi
    have ht1 : tis (cutT t F.dir F.name) F.node = true := by rw [tis_noE (hc.head F.node)]; exact g1
    rw [fr_other g2 ht1]
    have he := ok_leaf h.ok h2
    have he1 : (tget (cutT t F.dir F.name) F.node).ents = [] := by
      rw [hc.get]
      by_cases q : F.node = F.dir
      · exact absurd (by rw [q]; exact E.kind) h2
      · rw [if_neg q]; exact he
    by_cases hl : linkT (cutT t F.dir F.name) F.node = 0
    · rw [if_pos hl]
      exact kept_drop h hc he g2 hl (drp_is hc.ok ht1 he1)
    · rw [if_neg hl]
      exact ⟨tre_cut h hc h2 hl, ⟨by rw [hc.used]; exact Nat.le_refl _, by rw [hc.used]; exact Nat.le_succ _⟩, fun j hj => ⟨by rw [← tis_noE (hc.head j)]; exact hj, hc.head j⟩, hc.len⟩
  · rw [if_neg hz]
    exact ⟨kept_refl h, fun _ => rfl⟩
theorem rd_kept {t : List Nd} (h : Tre t) {c : Wh} {p : Nm} : Kept t (rdT t c (resM t c p false)) ∧ (rdE t c (resM t c p false) ≠ 0 → rdT t c (resM t c p false) = t) := by
  unfold rdT
  by_cases hz : rdE t c (resM t c p false) = 0
  · rw [if_pos hz]
    refine ⟨?_, fun q => absurd hz q⟩
    obtain ⟨h1, h2, h3⟩ := rd_zero hz
    obtain ⟨E, hi⟩ := fn_ent h.ok h1
    generalize (resM t c p false).1 = F at E hi h2 h3
    have hc := cut_is h.ok E.kind E.found hi
    obtain ⟨g1, g2, g3⟩ := here_found h E.found hi
    have ht1 : tis (cutT t F.dir F.name) F.node = true := by rw [tis_noE (hc.head F.node)]; exact g1
    have hne : F.node ≠ F.dir := fun q => g3 (by rw [← q]; exact h3)
    have he1 : (tget (cutT t F.dir F.name) F.node).ents = [] := by rw [hc.get, if_neg hne]; exact h3
    unfold dropT
    rw [if_pos ht1]
    refine kept_drop h hc h3 g2 ?_ (drp_is hc.ok ht1 he1)
    have h4 := hc.link F.node
    rw [if_pos rfl, h.dir _ h2 g2] at h4
    omega
  · rw [if_neg hz]
    exact ⟨kept_refl h, fun _ => rfl⟩
/-- What is moved, in a tree. -/
theorem mv_facts {t : List Nd} (h : Tre t) {c : Wh} {p q : Nm} (hz : mvE t c (resM t c p false) (resM t c q false) = 0) (hne : (resM t c q false).1.node ≠ (resM t c p false).1.node) :
    (Ent t (resM t c p false).1 ∧ (resM t c p false).1.node ≠ 0) ∧ Ent t (resM t c q false).1 ∧ Mv3 t (mv3 t (resM t c p false).1.dir (resM t c p false).1.name (resM t c p false).1.node (resM t c q false).1.dir (resM t c q false).1.name (resM t c q false).1.node) (resM t c p false).1.dir (resM t c p false).1.name (resM t c p false).1.node (resM t c q false).1.dir (resM t c q false).1.name (resM t c q false).1.node ∧
    ((tget t (resM t c p false).1.node).kind = 2 → ∀ a, itr (parF t) a (resM t c q false).1.dir ≠ (resM t c p false).1.node) ∧ ((resM t c q false).1.node ≠ 0 → ((tget t (resM t c p false).1.node).kind = 2 ↔ (tget t (resM t c q false).1.node).kind = 2) ∧ (tget t (resM t c q false).1.node).ents = []) := by
  obtain ⟨h1, h2, h3⟩ := mv_zero hz
  obtain ⟨E, hi⟩ := fn_ent h.ok h1
  obtain ⟨y1, -, y3, y4, y5⟩ := mvY_zero h3 hne
  have G := res_ent h.ok h2 y1
  exact ⟨⟨E, hi⟩, G, (mv3_is h.ok E.kind E.found hi G.kind G.found hne G.nam y4).1, fun z => blw_not h G.kind hi (y3 z), fun z => (y5 z).2⟩
theorem mv_kept {t : List Nd} (h : Tre t) {c : Wh} {p q : Nm} : Kept t (mvT t c (resM t c p false) (resM t c q false) []) ∧ (mvE t c (resM t c p false) (resM t c q false) ≠ 0 → mvT t c (resM t c p false) (resM t c q false) [] = t) := by
  unfold mvT
  by_cases hz : mvE t c (resM t c p false) (resM t c q false) ≠ 0 ∨ (resM t c q false).1.node = (resM t c p false).1.node
  · rw [if_pos hz]
    exact ⟨kept_refl h, fun _ => rfl⟩
  · rw [if_neg hz]
    have hz1 : mvE t c (resM t c p false) (resM t c q false) = 0 := Classical.byContradiction (fun z => hz (.inl z))
    obtain ⟨⟨E, hi⟩, G, m, b1, b2⟩ := mv_facts h hz1 (fun z => hz (.inr z))
    exact ⟨(tre_move h m E.found hi G.kind G.found b1 b2).1, fun z => absurd hz1 z⟩
end Go.Proofs.YtiimdmbalnhmmaaGreat
