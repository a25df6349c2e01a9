/-
  A tree stays one, whatever is taken away or moved; plain mathematics. The conditions are said at each.
-/
import Derived.Test.YtiimdmbalnhmmaaGreatPrN
namespace Go.Proofs.YtiimdmbalnhmmaaGreat
open Go Go.RowKit
set_option maxRecDepth 100000

/-- A node without its entries. -/
def noE (n : Nd) : Nd := ⟨n.kind, n.mode, n.uid, n.gid, n.data, [], n.target⟩
theorem noE_kind (n : Nd) : (noE n).kind = n.kind := rfl
theorem kind_noE {a b : Nd} (h : noE a = noE b) : a.kind = b.kind := by rw [← noE_kind a, h]; rfl
theorem tis_noE {t t' : List Nd} {j : Int} (h : noE (tget t' j) = noE (tget t j)) : tis t' j = tis t j := by unfold tis; rw [kind_noE h]
theorem nd_noE {a b : Nd} (h : noE a = noE b) (he : a.ents = b.ents) : a = b := by
  obtain ⟨a1, a2, a3, a4, a5, a6, a7⟩ := a
  obtain ⟨b1, b2, b3, b4, b5, b6, b7⟩ := b
  unfold noE at h
  simp only [Nd.mk.injEq] at h
  obtain ⟨h1, h2, h3, h4, h5, -, h6⟩ := h
  simp only at he
  subst h1 h2 h3 h4 h5 h6 he
  rfl
theorem Cut.head {t t1 : List Nd} {d : Int} {n : Nm} {i : Int} (h : Cut t t1 d n i) (j : Int) : noE (tget t1 j) = noE (tget t j) := by
  rw [h.get j]
  split
  · rename_i q
    rw [q]
    rfl
  · rfl
theorem Cut.mem {t t1 : List Nd} {d : Int} {n : Nm} {i : Int} (h : Cut t t1 d n i) {j : Int} {e : En} (he : e ∈ (tget t1 j).ents) : e ∈ (tget t j).ents := by
  rw [h.get j] at he
  split at he
  · rename_i q
    rw [q]
    exact del_mem he
  · exact he
theorem link_mem {t : List Nd} {j : Int} {i : Int} {e : En} (he : e ∈ (tget t j).ents) (hi : e.2 = i) : linkT t i ≠ 0 := fun q => absurd (link_zero.1 q j) (cnt_pos.2 ⟨e, he, hi⟩)
/-- A leaf's entry is gone, and it had more. -/
theorem tre_cut {t t1 : List Nd} (h : Tre t) {d : Int} {n : Nm} {i : Int} (hc : Cut t t1 d n i) (hk : (tget t i).kind ≠ 2) (hl : linkT t1 i ≠ 0) : Tre t1 := by
  have hkd : ∀ j, (tget t1 j).kind = (tget t j).kind := fun j => kind_noE (hc.head j)
  refine ⟨hc.ok, by rw [hc.len]; exact h.le, by rw [hkd]; exact h.one, ?_, fun j e he => ?_, fun j hj hne => ?_, fun j hj hne => ?_, fun j hj => ?_⟩
  · have h1 := hc.link 1
    rw [h.top] at h1
    omega
  · rw [tis_noE (hc.head e.2)]
    exact h.here j e (hc.mem he)
  · have h1 := hc.link j
    have h2 := h.file j (by rw [← tis_noE (hc.head j)]; exact hj) hne
    by_cases q : i = j
    · subst q
      omega
    · rw [if_neg q] at h1
      omega
  · have h1 := hc.link j
    have h2 := h.dir j (by rw [← hkd]; exact hj) hne
    rw [if_neg (fun q => hk (by rw [q, ← hkd]; exact hj))] at h1
    omega
  · obtain ⟨m, hm⟩ := h.root j (by rw [← hkd]; exact hj)
    refine root_keep h.ok (A := fun x => x = i) (fun x hx => hc.par x hx) (fun a ha => by rw [ha]; exact ok_leaf h.ok hk) m j (fun q => hk ?_) hm
    rw [← q, ← hkd]
    exact hj
/-- A leaf's last entry is gone, and it, too. -/
theorem tre_drop {t t1 t2 : List Nd} (h : Tre t) {d : Int} {n : Nm} {i : Int} (hc : Cut t t1 d n i) (he : (tget t i).ents = []) (h1 : i ≠ 1) (hl : linkT t1 i = 0) (hd : Drq t1 t2 i) : Tre t2 := by
  have hkd : ∀ j, (tget t1 j).kind = (tget t j).kind := fun j => kind_noE (hc.head j)
  have hk2 : ∀ j, j ≠ i → (tget t2 j).kind = (tget t j).kind := fun j hj => by rw [hd.get j, if_neg hj, hkd]
  have hni : ∀ j, (tget t2 j).kind ≠ 0 → j ≠ i := fun j hj q => by
    rw [hd.get j, if_pos q] at hj
    exact hj rfl
  refine ⟨hd.ok, by rw [hd.len, hc.len]; exact h.le, by rw [hk2 1 (fun q => h1 q.symm)]; exact h.one, ?_, fun j e hx => ?_, fun j hj hne => ?_, fun j hj hne => ?_, fun j hj => ?_⟩
  · have h2 := hc.link 1
    rw [h.top] at h2
    rw [hd.link]
    omega
  · have hj : j ≠ i := fun q => by
      rw [hd.get j, if_pos q] at hx
      cases hx
    rw [hd.get j, if_neg hj] at hx
    have hei : e.2 ≠ i := fun q => link_mem hx q hl
    have h3 := h.here j e (hc.mem hx)
    unfold tis
    rw [hk2 _ hei]
    exact h3
  · have hji := hni j (of_decide_eq_true hj)
    have h2 := hc.link j
    rw [if_neg (fun q => hji q.symm)] at h2
    have h3 := h.file j (by unfold tis at hj ⊢; rw [hk2 j hji] at hj; exact hj) hne
    rw [hd.link]
    omega
  · have hji := hni j (by rw [hj]; decide)
    have h2 := hc.link j
    rw [if_neg (fun q => hji q.symm)] at h2
    have h3 := h.dir j (by rw [← hk2 j hji]; exact hj) hne
    rw [hd.link]
    omega
  · have hji := hni j (by rw [hj]; decide)
    obtain ⟨m, hm⟩ := h.root j (by rw [← hk2 j hji]; exact hj)
    exact root_keep h.ok (A := fun x => x = i) (fun x hx => by rw [hd.par, hc.par x hx]) (fun a ha => by rw [ha]; exact he) m j hji hm
/-- The parent of a directory, of the entry that has it. -/
theorem tre_par {t : List Nd} (h : Tre t) {d i : Int} {n : Nm} (hk : (tget t i).kind = 2) (hi : i ≠ 0) (hf : fnd (tget t d).ents n = i) : parF t i = d := by
  have hm := fnd_mem (l := (tget t d).ents) (n := n) (by rw [hf]; exact hi)
  obtain ⟨e, he, -, h2⟩ := fnd_some hm
  rw [hf] at h2
  have hl0 := link_mem he h2.symm
  have h1 : i ≠ 1 := fun q => hl0 (by rw [q]; exact h.top)
  have hl := h.dir i hk h1
  have hdk : tis t d = true := by
    cases hx : tis t d with
    | true => rfl
    | false => rw [tis_not h.ok hx] at he; cases he
  have hin := tis_in hdk
  have hk1 : (d - 1).toNat < t.length := by omega
  have e1 : (((d - 1).toNat : Nat) : Int) + 1 = d := by omega
  have hc : cntE (t[(d - 1).toNat]).ents i ≠ 0 := by
    rw [← tget_at hk1, e1]
    exact cnt_pos.2 ⟨e, he, h2.symm⟩
  have := par_one t 0 (d - 1).toNat ⟨hk1, hc⟩ (fun m hm hne => sum_one (fun n : Nd => cntE n.ents i) t _ hk1 hl hc m hm hne)
  unfold parF
  rw [this]
  omega

/-! Moved. -/
structure Mv3 (t t3 : List Nd) (d : Int) (n : Nm) (i D : Int) (N : Nm) (k : Int) : Prop where
  head : ∀ j, noE (tget t3 j) = noE (tget t j)
  fnd : ∀ j x, fnd (tget t3 j).ents x = if j = D ∧ x = N then i else if j = d ∧ x = n then 0 else Go.Proofs.YtiimdmbalnhmmaaGreat.fnd (tget t j).ents x
  link : ∀ j, linkT t3 j + (if k ≠ 0 ∧ k = j then 1 else 0) = linkT t j
  par : ∀ j, j ≠ i → j ≠ k → parF t3 j = parF t j
  own : linkT t i = 1 → parF t3 i = D
  mem : ∀ j e, e ∈ (tget t3 j).ents → e ∈ (tget t j).ents ∨ e.2 = i
  other : ∀ j, j ≠ d → j ≠ D → tget t3 j = tget t j
  ok : okT t3
  len : t3.length = t.length
  used : usedT t3 = usedT t
theorem mv3_is {t : List Nd} (ho : okT t) {d i D k : Int} {n N : Nm} (kd : (tget t d).kind = 2) (fn : fnd (tget t d).ents n = i) (hi : i ≠ 0) (kD : (tget t D).kind = 2) (fN : fnd (tget t D).ents N = k) (hki : k ≠ i) (hN : nok N = true) (hroom : k = 0 → D ≠ d → (tget t D).ents.length < 8) :
    Mv3 t (mv3 t d n i D N k) d n i D N k ∧ withE (tget (mv2 t d n D N k) D) N i = 0 := by
  have c1 := cut_is ho kd fn hi
  have hne : ¬ (D = d ∧ N = n) := fun q => hki (by rw [← fN, ← fn, q.1, q.2])
  have f1 : ∀ j x, fnd (tget (cutT t d n) j).ents x = if j = d ∧ x = n then 0 else fnd (tget t j).ents x := fun j x => by
    rw [c1.get j]
    by_cases q : j = d
    · rw [if_pos q]
      by_cases q2 : x = n
      · rw [if_pos ⟨q, q2⟩, q2]
        exact fnd_del (ok_ris ho d)
      · rw [if_neg (fun z => q2 z.2), q]
        exact fnd_del_ne q2 _
    · rw [if_neg q, if_neg (fun z => q z.1)]
  have k1 : ∀ j, (tget (cutT t d n) j).kind = (tget t j).kind := fun j => kind_noE (c1.head j)
  have hi1 : 1 ≤ i := by rw [← fn]; exact ok_fnd ho (by rw [fn]; exact hi)
  -- the table behind both cuts
  have h2 : (∀ j, noE (tget (mv2 t d n D N k) j) = noE (tget t j)) ∧ (∀ j x, ¬ (j = D ∧ x = N) → fnd (tget (mv2 t d n D N k) j).ents x = if j = d ∧ x = n then 0 else fnd (tget t j).ents x) ∧ (∀ j, linkT (mv2 t d n D N k) j + (if i = j then 1 else 0) + (if k ≠ 0 ∧ k = j then 1 else 0) = linkT t j) ∧ (∀ j, j ≠ i → j ≠ k → parF (mv2 t d n D N k) j = parF t j) ∧ (∀ j e, e ∈ (tget (mv2 t d n D N k) j).ents → e ∈ (tget t j).ents) ∧ (∀ j, j ≠ d → j ≠ D → tget (mv2 t d n D N k) j = tget t j) ∧ okT (mv2 t d n D N k) ∧ (mv2 t d n D N k).length = t.length ∧ usedT (mv2 t d n D N k) = usedT t ∧ ¬ N ∈ nmE (tget (mv2 t d n D N k) D).ents ∧ (tget (mv2 t d n D N k) D).ents.length < 8 := by
    by_cases hk : k = 0
    · have e : mv2 t d n D N k = cutT t d n := if_neg (fun q => q hk)
      rw [e]
      have hnm : ¬ N ∈ nmE (tget t D).ents := fun q => by
        obtain ⟨e, he, -, h3⟩ := fnd_some q
        have := ok_pos ho he
        omega
      refine ⟨c1.head, fun j x _ => f1 j x, fun j => ?_, fun j hj _ => c1.par j hj, fun j e he => c1.mem he, fun j hj _ => ?_, c1.ok, c1.len, c1.used, fun q => hnm ?_, ?_⟩
      · have e5 : (if k ≠ 0 ∧ k = j then 1 else 0) = 0 := if_neg (fun q => q.1 hk)
        have h3 := c1.link j
        omega
      · rw [c1.get j, if_neg hj]
      · obtain ⟨e, he, h3⟩ := List.mem_map.1 q
        exact List.mem_map.2 ⟨e, c1.mem he, h3⟩
      · rw [c1.get D]
        by_cases q : D = d
        · rw [if_pos q]
          have h3 := del_len (fnd_mem (l := (tget t d).ents) (n := n) (by rw [fn]; exact hi))
          have h4 := ok_eight ho d
          show (del (tget t d).ents n).length < 8
          omega
        · rw [if_neg q]
          exact hroom hk q
    · have e : mv2 t d n D N k = cutT (cutT t d n) D N := if_pos hk
      rw [e]
      have fk : fnd (tget (cutT t d n) D).ents N = k := by rw [f1, if_neg hne]; exact fN
      have c2 := cut_is c1.ok (by rw [k1]; exact kD) fk hk
      have hNm := fnd_mem (l := (tget (cutT t d n) D).ents) (n := N) (by rw [fk]; exact hk)
      refine ⟨fun j => (c2.head j).trans (c1.head j), fun j x hx => ?_, fun j => ?_, fun j h1 h2 => by rw [c2.par j h2, c1.par j h1], fun j e he => c1.mem (c2.mem he), fun j h1 h2 => ?_, c2.ok, c2.len.trans c1.len, c2.used.trans c1.used, ?_, ?_⟩
      · rw [← f1 j x, c2.get j]
        by_cases q : j = D
        · rw [if_pos q, q]
          exact fnd_del_ne (fun z => hx ⟨q, z⟩) _
        · rw [if_neg q]
      · have h3 := c1.link j
        have h4 := c2.link j
        by_cases q : k = j
        · have e5 : (if k ≠ 0 ∧ k = j then 1 else 0) = 1 := if_pos ⟨hk, q⟩
          have e6 : (if k = j then 1 else 0) = 1 := if_pos q
          omega
        · have e5 : (if k ≠ 0 ∧ k = j then 1 else 0) = 0 := if_neg (fun z => q z.2)
          have e6 : (if k = j then 1 else 0) = 0 := if_neg q
          omega
      · rw [c2.get j, if_neg h2, c1.get j, if_neg h1]
      · rw [c2.get D, if_pos rfl]
        exact del_gone (ok_ris c1.ok D)
      · rw [c2.get D, if_pos rfl]
        have h3 := del_len hNm
        have h4 := ok_eight c1.ok D
        show (del (tget (cutT t d n) D).ents N).length < 8
        omega
  obtain ⟨g1, g2, g3, g4, g5, g6, g7, g8, g9, g10, g11⟩ := h2
  have hw : withE (tget (mv2 t d n D N k) D) N i = 0 := withE_zero.2 ⟨by rw [kind_noE (g1 D)]; exact kD, hi1, hN, g10, g11⟩
  have a3 := add_is g7 hw
  refine ⟨⟨fun j => ?_, fun j x => ?_, fun j => ?_, fun j h1 h2 => ?_, fun hl => a3.own ?_, fun j e he => ?_, fun j h1 h2 => ?_, a3.ok, a3.len.trans g8, a3.used.trans g9⟩, hw⟩
  · refine Eq.trans ?_ (g1 j)
    unfold mv3
    rw [a3.get j]
    split
    · rename_i q
      rw [q]
      rfl
    · rfl
  · unfold mv3
    rw [a3.get j]
    by_cases q : j = D
    · rw [if_pos q]
      by_cases q2 : x = N
      · rw [if_pos ⟨q, q2⟩, q2]
        exact fnd_ins g10
      · rw [if_neg (fun z => q2 z.2), ← g2 j x (fun z => q2 z.2), q]
        exact fnd_ins_ne q2 _
    · rw [if_neg q, if_neg (fun z => q z.1)]
      exact g2 j x (fun z => q z.1)
  · have h3 := g3 j
    have h4 := a3.link j
    unfold mv3
    omega
  · unfold mv3
    rw [a3.par j h1, g4 j h1 h2]
  · have h3 := g3 i
    rw [if_pos rfl, if_neg (fun q => hki q.2)] at h3
    omega
  · unfold mv3 at he
    rw [a3.get j] at he
    split at he
    · rename_i q
      rcases (mem_ins (N, i) e _).1 he with z | z
      · exact .inr (by rw [z])
      · rw [q]
        exact .inl (g5 D e z)
    · exact .inl (g5 j e he)
  · unfold mv3
    rw [a3.get j, if_neg h2]
    exact g6 j h1 h2
end Go.Proofs.YtiimdmbalnhmmaaGreat
