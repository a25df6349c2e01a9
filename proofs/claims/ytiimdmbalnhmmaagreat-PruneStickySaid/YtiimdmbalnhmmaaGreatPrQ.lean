/-
  What PruneMoved and PruneSticky ask for; plain mathematics. The conditions are said at each.
-/
import Derived.Test.YtiimdmbalnhmmaaGreatPrP
namespace Go.Proofs.YtiimdmbalnhmmaaGreat
open Go Go.RowKit
set_option maxRecDepth 100000

theorem cut_fnd {t t1 : List Nd} (ho : okT t) {d : Int} {n : Nm} {i : Int} (h : Cut t t1 d n i) (j : Int) (x : Nm) : fnd (tget t1 j).ents x = if j = d ∧ x = n then 0 else fnd (tget t j).ents x := by
  rw [h.get j]
  by_cases q : j = d
  · rw [if_pos q]
    by_cases q2 : x = n
    · rw [if_pos ⟨q, q2⟩, q2]
      exact fnd_del (ok_ris ho d)
    · rw [if_neg (fun z => q2 z.2), q]
      exact fnd_del_ne q2 _
  · rw [if_neg q, if_neg (fun z => q z.1)]
/-- A directory's one entry. -/
theorem tre_one {t : List Nd} (h : Tre t) {d j i : Int} {n x : Nm} (hk : (tget t i).kind = 2) (hi : i ≠ 0) (kd : (tget t d).kind = 2) (hf : fnd (tget t d).ents n = i) (hx : fnd (tget t j).ents x = i) : j = d ∧ x = n := by
  have hc := cut_is h.ok kd hf hi
  have hl := hc.link i
  have h9 := h.dir i hk (here_found h hf hi).2.1
  have h8 : (if i = i then 1 else 0) = 1 := if_pos rfl
  have hz : linkT (cutT t d n) i = 0 := by omega
  refine Classical.byContradiction (fun q => ?_)
  have h1 := cut_fnd h.ok hc j x
  rw [if_neg q, hx] at h1
  obtain ⟨e, he, -, h2⟩ := fnd_some (fnd_mem (l := (tget (cutT t d n) j).ents) (n := x) (by rw [h1]; exact hi))
  exact link_mem he (h2.symm.trans h1) hz
theorem itr_one {t : List Nd} (h : Tre t) (m : Nat) : itr (parF t) m 1 = 1 ∨ itr (parF t) m 1 = 0 := by
  cases m with
  | zero => exact .inl rfl
  | succ m =>
    right
    show itr (parF t) m (parF t 1) = 0
    rw [par_none h.top, itr_zero (parF_zero h.ok)]
/-- What a path leads to, once something is moved to where nothing was. -/
def seen (d : Int) (n : Nm) (i D : Int) (N : Nm) (F : Fo) : Fo := if F.name = [] then F else ⟨F.dir, F.name, if F.dir = D ∧ F.name = N then i else if F.dir = d ∧ F.name = n then 0 else F.node⟩
theorem can_noE {t t3 : List Nd} (h : ∀ j, noE (tget t3 j) = noE (tget t j)) (c : Wh) (j x : Int) : canT t3 c j x = canT t c j x := by
  have e := h j
  unfold canT canN
  rw [tis_noE e]
  have e1 : (tget t3 j).mode = (tget t j).mode := by have := congrArg Nd.mode e; exact this
  have e2 : (tget t3 j).uid = (tget t j).uid := by have := congrArg Nd.uid e; exact this
  have e3 : (tget t3 j).gid = (tget t j).gid := by have := congrArg Nd.gid e; exact this
  rw [e1, e2, e3]
theorem sr_noE {t t3 : List Nd} (h : ∀ j, noE (tget t3 j) = noE (tget t j)) (c : Wh) (j : Int) : srE t3 c j = srE t c j := by
  unfold srE
  rw [kind_noE (h j), can_noE h]
theorem target_noE {a b : Nd} (h : noE a = noE b) : a.target = b.target := by have := congrArg Nd.target h; exact this
theorem wlk_seen {t t3 : List Nd} (h : Tre t) {d i D : Int} {n N : Nm} (m : Mv3 t t3 d n i D N 0) (kd : (tget t d).kind = 2) (fn : fnd (tget t d).ents n = i) (hi : i ≠ 0) (fN : fnd (tget t D).ents N = 0) {c : Wh} :
    ∀ k l j, (∀ x ∈ l, x ≠ []) → ((tget t j).kind = 2 → ∀ a, itr (parF t) a j ≠ i) → (wlk t c false k l j).2 = 0 → (wlk t3 c false k l j).2 ≠ 0 ∨ wlk t3 c false k l j = (seen d n i D N (wlk t c false k l j).1, 0) := by
  have hne : ¬ (D = d ∧ N = n) := fun q => hi (by rw [← fn, ← fN, q.1, q.2])
  have h1 := (here_found h fn hi).2.1
  have hsr := fun j => sr_noE m.head c j
  refine wlk_ind (fun k j _ _ _ => ?_) (fun k x r j ih ih2 hg hq hz => ?_)
  · rw [wlk_nil, wlk_nil]
    exact .inr rfl
  have hgr : ∀ y ∈ r, y ≠ [] := fun y hy => hg y (List.mem_cons_of_mem _ hy)
  have hx0 : x ≠ [] := hg x (List.mem_cons_self ..)
  by_cases hs : srE t c j = 0
  · have hs3 : srE t3 c j = 0 := by rw [hsr]; exact hs
    have hkj := (sr_zero.1 hs).1
    have hJ := hq hkj
    by_cases a1 : x = [46]
    · rw [wlk_dot hs a1] at hz ⊢
      rw [wlk_dot hs3 a1]
      exact ih j hgr hq hz
    by_cases a2 : x = [46, 46]
    · rw [wlk_up hs a2] at hz ⊢
      rw [wlk_up hs3 a2]
      have hp : parF t3 j = parF t j := m.par j (hJ 0) (fun q => by rw [q, zero_kind] at hkj; exact absurd hkj (by decide))
      have hu : upI t3 j = upI t j := by
        unfold parF at hp
        have hp' : parT t3 0 j = parT t 0 j := by omega
        unfold upI
        rw [hp']
      rw [hu]
      refine ih _ hgr (fun _ a => ?_) hz
      unfold upI
      split
      · exact hJ (a + 1)
      · exact hJ a
    by_cases a3 : 12 < x.length
    · rw [wlk_long hs a1 a2 a3] at hz
      exact absurd hz (by decide)
    have hf3 := m.fnd j x
    by_cases b1 : j = D ∧ x = N
    · rw [if_pos b1] at hf3
      have hy : fnd (tget t j).ents x = 0 := by rw [b1.1, b1.2]; exact fN
      by_cases hr : r = []
      · rw [wlk_last hs a1 a2 a3 (fun q => q.2.elim (fun z => by cases z) (fun z => z hr)) hr, wlk_last hs3 a1 a2 a3 (fun q => q.2.elim (fun z => by cases z) (fun z => z hr)) hr, hf3]
        right
        unfold seen
        rw [if_neg hx0, if_pos b1]
      · rw [wlk_gone hs a1 a2 a3 hy hr] at hz
        exact absurd hz (by decide)
    rw [if_neg b1] at hf3
    by_cases b2 : j = d ∧ x = n
    · rw [if_pos b2] at hf3
      by_cases hr : r = []
      · rw [wlk_last hs a1 a2 a3 (fun q => q.2.elim (fun z => by cases z) (fun z => z hr)) hr, wlk_last hs3 a1 a2 a3 (fun q => q.2.elim (fun z => by cases z) (fun z => z hr)) hr, hf3]
        right
        unfold seen
        rw [if_neg hx0, if_neg b1, if_pos b2]
      · rw [wlk_gone hs3 a1 a2 a3 hf3 hr]
        exact .inl (by decide)
    rw [if_neg b2] at hf3
    by_cases hr : r = []
    · rw [wlk_last hs a1 a2 a3 (fun q => q.2.elim (fun z => by cases z) (fun z => z hr)) hr, wlk_last hs3 a1 a2 a3 (fun q => q.2.elim (fun z => by cases z) (fun z => z hr)) hr, hf3]
      right
      unfold seen
      rw [if_neg hx0, if_neg b1, if_neg b2]
    by_cases hy : fnd (tget t j).ents x = 0
    · rw [wlk_gone hs a1 a2 a3 hy hr] at hz
      exact absurd hz (by decide)
    have hn : ¬ (fnd (tget t j).ents x = 0 ∧ r ≠ []) := fun q => hy q.1
    have hn3 : ¬ (fnd (tget t3 j).ents x = 0 ∧ r ≠ []) := fun q => hy (by rw [← hf3]; exact q.1)
    by_cases hl : (tget t (fnd (tget t j).ents x)).kind = 3 ∧ (false = true ∨ r ≠ [])
    · have hl3 : (tget t3 (fnd (tget t3 j).ents x)).kind = 3 ∧ (false = true ∨ r ≠ []) := by
        rw [hf3, kind_noE (m.head _)]
        exact hl
      cases k with
      | zero =>
        rw [wlk_loop hs a1 a2 a3 hn hl] at hz
        exact absurd hz (by decide)
      | succ k =>
        rw [wlk_link hs a1 a2 a3 hn hl] at hz ⊢
        rw [wlk_link hs3 a1 a2 a3 hn3 hl3, hf3, target_noE (m.head _)]
        refine ih2 k _ _ (Nat.lt_succ_self _) (fun y hy => ?_) (fun hk2 a => ?_) hz
        · rcases List.mem_append.1 hy with q | q
          · exact split_ne _ y q
          · exact hgr y q
        · split
          · rcases itr_one h a with q | q <;> rw [q]
            · exact fun z => h1 z.symm
            · exact fun z => hi z.symm
          · exact hJ a
    · have hl3 : ¬ ((tget t3 (fnd (tget t3 j).ents x)).kind = 3 ∧ (false = true ∨ r ≠ [])) := by
        rw [hf3, kind_noE (m.head _)]
        exact hl
      rw [wlk_on hs a1 a2 a3 hy hl hr] at hz ⊢
      rw [wlk_on hs3 a1 a2 a3 (by rw [hf3]; exact hy) hl3 hr, hf3]
      refine ih _ hgr (fun hk2 a => ?_) hz
      cases a with
      | zero => exact fun q => b2 (tre_one h (by have q' : fnd (tget t j).ents x = i := q; rw [← q']; exact hk2) hi kd fn q)
      | succ a =>
        have hp := tre_par h hk2 hy rfl
        show itr (parF t) a (parF t (fnd (tget t j).ents x)) ≠ i
        rw [hp]
        exact hJ a
  · rw [wlk_sr hs] at hz
    exact absurd hz hs
/-- Where a path leads, once something is moved to where nothing was. -/
theorem res_seen {t t3 : List Nd} (h : Tre t) {d i D : Int} {n N : Nm} (m : Mv3 t t3 d n i D N 0) (kd : (tget t d).kind = 2) (fn : fnd (tget t d).ents n = i) (hi : i ≠ 0) (fN : fnd (tget t D).ents N = 0) {c : Wh} {p : Nm} (hz : (resM t c p false).2 = 0) :
    (resM t3 c p false).2 ≠ 0 ∨ resM t3 c p false = (seen d n i D N (resM t c p false).1, 0) := by
  have hf : fitE t p = 0 := Classical.byContradiction (fun q => by
    unfold resM at hz
    rw [if_pos q] at hz
    exact q hz)
  have hf3 : fitE t3 p = 0 := by
    obtain ⟨f1, f2, f3, f4⟩ := fit_why.1 hf
    exact fit_why.2 ⟨f1, f2, f3, by rw [tis_noE (m.head 1)]; exact f4⟩
  have e : resM t c p false = wlk t c false 8 (splitP p) 1 := by unfold resM; rw [if_neg (fun q => q hf)]
  have e3 : resM t3 c p false = wlk t3 c false 8 (splitP p) 1 := by unfold resM; rw [if_neg (fun q => q hf3)]
  rw [e] at hz ⊢
  rw [e3]
  have h1 := (here_found h fn hi).2.1
  exact wlk_seen h m kd fn hi fN 8 (splitP p) 1 (split_ne p) (fun _ a => (itr_one h a).elim (fun q => by rw [q]; exact fun z => h1 z.symm) (fun q => by rw [q]; exact fun z => hi z.symm)) hz
/-- Back again. -/
theorem move_back {t : List Nd} (ho : okT t) {d i D : Int} {n N : Nm} (kd : (tget t d).kind = 2) (fn : fnd (tget t d).ents n = i) (hi : i ≠ 0) (kD : (tget t D).kind = 2) (fN : fnd (tget t D).ents N = 0) (hn : nok n = true) (hN : nok N = true) (hroom : D ≠ d → (tget t D).ents.length < 8) :
    mv3 (mv3 t d n i D N 0) D N i d n 0 = t := by
  have c1 := cut_is ho kd fn hi
  obtain ⟨m, hw⟩ := mv3_is (k := 0) ho kd fn hi kD fN (fun q => hi q.symm) hN (fun _ => hroom)
  have hw1 : withE (tget (cutT t d n) D) N i = 0 := hw
  have a1 := add_is c1.ok hw1
  have e3 : mv3 t d n i D N 0 = addT (cutT t d n) D N i := rfl
  rw [e3] at m ⊢
  have hne : ¬ (d = D ∧ n = N) := fun q => hi (by rw [← fn, ← fN, q.1, q.2])
  have kd3 : (tget (addT (cutT t d n) D N i) D).kind = 2 := by rw [kind_noE (m.head D)]; exact kD
  have f3 : fnd (tget (addT (cutT t d n) D N i) D).ents N = i := by rw [m.fnd, if_pos ⟨rfl, rfl⟩]
  have c2 := cut_is a1.ok kd3 f3 hi
  -- what was put in is gone again
  have hu : ∀ j, tget (cutT (addT (cutT t d n) D N i) D N) j = tget (cutT t d n) j := fun j => by
    rw [c2.get j]
    by_cases q : j = D
    · rw [if_pos q, a1.get D, if_pos rfl, q]
      have hd := del_ins (n := N) (i := i) (withE_zero.1 hw1).2.2.2.1
      generalize tget (cutT t d n) D = X at hd ⊢
      show (⟨X.kind, X.mode, X.uid, X.gid, X.data, del (ins (N, i) X.ents) N, X.target⟩ : Nd) = X
      rw [hd]
    · rw [if_neg q, a1.get j, if_neg q]
  have eu : mv2 (addT (cutT t d n) D N i) D N d n 0 = cutT (addT (cutT t d n) D N i) D N := rfl
  have hw2 : withE (tget (cutT (addT (cutT t d n) D N i) D N) d) n i = 0 := by
    rw [hu d]
    refine withE_zero.2 ⟨by rw [kind_noE (c1.head d)]; exact kd, by rw [← fn]; exact ok_fnd ho (by rw [fn]; exact hi), hn, ?_, ?_⟩
    · rw [c1.get d, if_pos rfl]
      exact del_gone (ok_ris ho d)
    · rw [c1.get d, if_pos rfl]
      have h3 := del_len (fnd_mem (l := (tget t d).ents) (n := n) (by rw [fn]; exact hi))
      have h4 := ok_eight ho d
      show (del (tget t d).ents n).length < 8
      omega
  have a2 := add_is c2.ok hw2
  show addT (cutT (addT (cutT t d n) D N i) D N) d n i = t
  refine tget_ext (by rw [a2.len, c2.len, a1.len, c1.len]) (fun k _ => ?_)
  rw [a2.get]
  by_cases q : (k : Int) + 1 = d
  · rw [if_pos q, q, hu d, c1.get d, if_pos rfl]
    have hb := ins_del (ok_ris ho d) (fnd_mem (l := (tget t d).ents) (n := n) (by rw [fn]; exact hi))
    rw [fn] at hb
    generalize tget t d = X at hb ⊢
    show (⟨X.kind, X.mode, X.uid, X.gid, X.data, ins (n, i) (del X.ents n), X.target⟩ : Nd) = X
    rw [hb]
  · rw [if_neg q, hu, c1.get, if_neg q]
end Go.Proofs.YtiimdmbalnhmmaaGreat
