/-
  Trees with open nodes, behind what is taken away or moved; plain mathematics. The conditions are said at each. Tables whose nodes differ in modes and owners alone: where a path leads in them, as plain mathematics. No condition. What becomes of a table where a mode, an owner or a group is changed, as plain mathematics. No condition. What PlantNeeds and PlantRoom ask for, as plain mathematics. The conditions are said at each. Why nothing is made at a place that is found, one way behind the other; plain mathematics. The conditions are said at each. node.With, and what it calls. The conditions are said at each.
-/
import Derived.Test.YtnkjaocmfhjnoaaGreatE1
import Derived.Test.YtnkjaocmfhjnoaaGreatE4
import Derived.Test.YtnkjaocmfhjnoaaGreatE5
import Derived.Laws.Cover1
import Derived.Shelf.Spec.SlicesInsert
namespace Go.Proofs.YtnkjaocmfhjnoaaGreat
open Go Go.RowKit
set_option maxRecDepth 100000

structure Kpo (t t' : List Nd) (op : List Int) : Prop where
  tro : Tro t' (fun j => j ∈ op)
  head : ∀ j ∈ op, noE (tget t' j) = noE (tget t j)
  len : t'.length = t.length
theorem kpo_refl {t : List Nd} {op : List Int} (h : Tro t (fun j => j ∈ op)) : Kpo t t op := ⟨h, fun _ _ => rfl, rfl⟩
theorem fr_len (t : List Nd) (i : Int) (op : List Int) : (frT t i op).length = t.length := by
  unfold frT
  split
  · rw [len_setT]
  · rfl
theorem ul_kpo {t : List Nd} {op : List Int} (h : Tro t (fun j => j ∈ op)) {c : Wh} {p : Nm} : Kpo t (ulT t c (resM t c p false) op) op := by
  unfold ulT
  by_cases hz : ulE t c (resM t c p false) = 0
  · rw [if_pos hz]
    obtain ⟨h1, h2⟩ := ul_zero hz
    obtain ⟨E, hi⟩ := fn_ent h.ok h1
    generalize (resM t c p false).1 = F at E hi h2
    have hc := cut_is h.ok E.kind E.found hi
    have ht := tro_cut h hc h2
    have hk : (tget (cutT t F.dir F.name) F.node).kind ≠ 2 := by rw [kind_noE (hc.head _)]; exact h2
    exact ⟨tro_free ht hk, fun j hj => by rw [fr_stay _ _ hj (fun q => tis_in q)]; exact hc.head j, by rw [fr_len, hc.len]⟩
  · rw [if_neg hz]
    exact kpo_refl h
theorem rd_kpo {t : List Nd} {op : List Int} (h : Tro t (fun j => j ∈ op)) (hO : ∀ j ∈ op, (tget t j).kind ≠ 2) {c : Wh} {p : Nm} : Kpo t (rdT t c (resM t c p false)) op := by
  unfold rdT
  by_cases hz : rdE t c (resM t c p false) = 0
  · rw [if_pos hz]
    obtain ⟨h1, h2, h3⟩ := rd_zero hz
    obtain ⟨E, hi⟩ := fn_ent h.ok h1
    generalize (resM t c p false).1 = F at E hi h2 h3
    have hc := cut_is h.ok E.kind E.found hi
    obtain ⟨g1, g2, g3⟩ := here_foundO h E.found hi
    have ht1 : tis (cutT t F.dir F.name) F.node = true := by rw [tis_noE (hc.head F.node)]; exact g1
    have hne : F.node ≠ F.dir := fun q => g3 (by rw [← q]; exact h3)
    have he1 : (tget (cutT t F.dir F.name) F.node).ents = [] := by rw [hc.get, if_neg hne]; exact h3
    have hkd : ∀ j, (tget (cutT t F.dir F.name) j).kind = (tget t j).kind := fun j => kind_noE (hc.head j)
    have hl : linkT (cutT t F.dir F.name) F.node = 0 := by
      have h4 := hc.link F.node
      rw [if_pos rfl, h.dir _ h2 g2] at h4
      omega
    unfold dropT
    rw [if_pos ht1]
    have hd := drp_is hc.ok ht1 he1
    refine ⟨tro_drop g2 hl hd (by rw [hc.len]; exact h.le) (by rw [hkd]; exact h.one) ?_ (fun j e he => ?_) (fun j hj hne hji => ?_) (fun j hj hne hji => ?_) (fun j hj hji => ?_), fun j hj => ?_, by rw [len_setT, hc.len]⟩
    · have h4 := hc.link 1
      rw [h.top] at h4
      omega
    · rw [tis_noE (hc.head e.2)]
      exact h.here j e (hc.mem he)
    · have h4 := hc.link j
      rw [if_neg (fun q => hji q.symm)] at h4
      exact (h.file j (by rw [← tis_noE (hc.head j)]; exact hj) hne).imp (fun z => by omega) id
    · have h4 := hc.link j
      rw [if_neg (fun q => hji q.symm)] at h4
      have h5 := h.dir j (by rw [← hkd]; exact hj) hne
      omega
    · obtain ⟨m, hm⟩ := h.root j (by rw [← hkd]; exact hj)
      exact root_keep h.ok (A := fun x => x = F.node) (fun x hx => hc.par x hx) (fun a ha => by rw [ha]; exact h3) m j hji hm
    · have hjn : j ≠ F.node := fun q => hO j hj (by rw [q]; exact h2)
      rw [hd.get j, if_neg hjn]
      exact hc.head j
  · rw [if_neg hz]
    exact kpo_refl h
theorem move_rootO {t t3 : List Nd} {O : Int → Prop} (h : Tro t O) {d i D k : Int} {n N : Nm} (m : Mv3 t t3 d n i D N k) (fn : fnd (tget t d).ents n = i) (hi : i ≠ 0) (kD : (tget t D).kind = 2) (fN : fnd (tget t D).ents N = k)
    (hdir : (tget t i).kind = 2 → ∀ a, itr (parF t) a D ≠ i) (hke : (tget t k).ents = []) : ∀ j, (tget t j).kind = 2 → j ≠ k → ∃ a, itr (parF t3) a j = 1 := fun j hj hjk => by
  obtain ⟨a, ha⟩ := h.root j hj
  by_cases hk : (tget t i).kind = 2
  · have hD : ∃ a, itr (parF t3) a D = 1 := by
      obtain ⟨b, hb⟩ := h.root D kD
      refine ⟨b, root_off (A := fun x => x = i ∨ x = k) (fun x hx => m.par x (fun q => hx (.inl q)) (fun q => hx (.inr q))) b D (fun x hx q => ?_) hb⟩
      rcases q with q | q
      · exact hdir hk x q
      · by_cases hk0 : k = 0
        · have e1 := itr_add (parF t) x (b - x) D
          rw [show x + (b - x) = b by omega, hb, q, hk0, itr_zero (parF_zero h.ok)] at e1
          exact absurd e1 (by decide)
        · cases x with
          | zero =>
            have q' : D = k := q
            exact (here_foundO h fN hk0).2.2 (by rw [q']; exact hke)
          | succ x =>
            rw [itr_succ] at q
            have h3 := (par_dir h.ok (j := itr (parF t) x D) (by rw [q]; exact hk0)).2
            rw [q, hke] at h3
            exact h3 rfl
    have hl := h.dir i hk (here_foundO h fn hi).2.1
    exact root_move h.ok m.par hke (m.own hl) hD a j hjk ha
  · refine root_keep h.ok (A := fun x => x = i ∨ x = k) (fun x hx => m.par x (fun q => hx (.inl q)) (fun q => hx (.inr q))) (fun x hx => ?_) a j (fun q => q.elim (fun z => hk (by rw [← z]; exact hj)) hjk) ha
    rcases hx with z | z
    · rw [z]; exact ok_leaf h.ok hk
    · rw [z]; exact hke
theorem move_kpo {t t3 : List Nd} {op : List Int} (h : Tro t (fun j => j ∈ op)) (hO : ∀ j ∈ op, (tget t j).kind ≠ 2) {d i D k : Int} {n N : Nm} (m : Mv3 t t3 d n i D N k) (fn : fnd (tget t d).ents n = i) (hi : i ≠ 0) (kD : (tget t D).kind = 2) (fN : fnd (tget t D).ents N = k)
    (hdir : (tget t i).kind = 2 → ∀ a, itr (parF t) a D ≠ i) (hkk : k ≠ 0 → ((tget t i).kind = 2 ↔ (tget t k).kind = 2) ∧ (tget t k).ents = []) : Kpo t (frT t3 k op) op := by
  have hke : (tget t k).ents = [] := by
    by_cases q : k = 0
    · exact ok_leaf h.ok (by rw [q, zero_kind]; decide)
    · exact (hkk q).2
  have hroot := move_rootO h m fn hi kD fN hdir hke
  have hkd : ∀ j, (tget t3 j).kind = (tget t j).kind := fun j => kind_noE (m.head j)
  have hti := (here_foundO h fn hi).1
  have htop : linkT t3 1 = 0 := by
    have h1 := m.link 1
    rw [h.top] at h1
    omega
  have hhere : ∀ (j : Int) (e : En), e ∈ (tget t3 j).ents → tis t3 e.2 = true := fun j e he => by
    rw [tis_noE (m.head e.2)]
    rcases m.mem j e he with q | q
    · exact h.here j e q
    · rw [q]; exact hti
  have hlk : ∀ j, ¬ (k ≠ 0 ∧ k = j) → linkT t3 j = linkT t j := fun j hj => by
    have h1 := m.link j
    rw [if_neg hj] at h1
    omega
  have hst : ∀ j ∈ op, noE (tget (frT t3 k op) j) = noE (tget t j) := fun j hj => by
    rw [fr_stay _ _ hj (fun q => tis_in q)]
    exact m.head j
  refine ⟨?_, hst, by rw [fr_len, m.len]⟩
  by_cases hk2 : (tget t k).kind = 2
  · -- a directory that is replaced
    have hk0 : k ≠ 0 := fun q => by rw [q, zero_kind] at hk2; exact absurd hk2 (by decide)
    obtain ⟨t1, t2, t4⟩ := here_foundO h fN hk0
    have htk : tis t3 k = true := by rw [tis_noE (m.head k)]; exact t1
    have hl : linkT t3 k = 0 := by
      have h1 := m.link k
      rw [if_pos ⟨hk0, rfl⟩, h.dir k hk2 t2] at h1
      omega
    have hno : ¬ k ∈ op := fun q => hO k q hk2
    have hb : frB t3 k op = true := by
      unfold frB
      rw [decide_eq_true t2, decide_eq_true hl, htk]
      have : op.contains k = false := by
        cases hz : op.contains k with
        | false => rfl
        | true => exact absurd (List.contains_iff_mem.1 hz) hno
      rw [this]
      rfl
    unfold frT
    rw [if_pos hb]
    have kd' : k ≠ d := fun q => (here_foundO h fn hi).2.2 (by rw [← q]; exact hke)
    have kD' : k ≠ D := fun q => t4 (by rw [← q]; exact hke)
    have hd := drp_is m.ok htk (by rw [m.other k kd' kD']; exact hke)
    refine tro_drop t2 hl hd (by rw [m.len]; exact h.le) (by rw [hkd]; exact h.one) htop hhere (fun j hj hne hji => ?_) (fun j hj hne hji => ?_) (fun j hj hji => ?_)
    · rw [hlk j (fun q => hji q.2.symm)]
      exact h.file j (by rw [← tis_noE (m.head j)]; exact hj) hne
    · rw [hlk j (fun q => hji q.2.symm)]
      exact h.dir j (by rw [← hkd]; exact hj) hne
    · exact hroot j (by rw [← hkd]; exact hj) hji
  · refine tro_free (i := k) ⟨m.ok, by rw [m.len]; exact h.le, by rw [hkd]; exact h.one, htop, hhere, fun j hj hne => ?_, fun j hj hne => ?_, fun j hj => ?_⟩ (by rw [hkd]; exact hk2)
    · by_cases q : j = k
      · exact .inr (.inr q)
      · rw [hlk j (fun z => q z.2.symm)]
        exact (h.file j (by rw [← tis_noE (m.head j)]; exact hj) hne).imp id .inl
    · rw [hkd] at hj
      rw [hlk j (fun z => hk2 (by rw [z.2]; exact hj))]
      exact h.dir j hj hne
    · rw [hkd] at hj
      exact hroot j hj (fun z => hk2 (by rw [← z]; exact hj))
theorem blw_notO {t : List Nd} {O : Int → Prop} (h : Tro t O) {D i : Int} (hD : (tget t D).kind = 2) (hi : i ≠ 0) (hb : blwB t D i = false) : ∀ m, itr (parF t) m D ≠ i := fun m q => by
  obtain ⟨m0, h0⟩ := h.root D hD
  have hin := tis_in (kind_tis hD)
  obtain ⟨a, h1, h2⟩ := root_bound (L := t.length) (parF_zero h.ok) (parF_le t) ⟨by omega, by omega⟩ h0
  have hle := h.le
  have hm : m ≤ 24 := by
    refine Classical.byContradiction (fun z => hi ?_)
    have e1 := itr_add (parF t) (a + 1) (m - (a + 1)) D
    have e2 : itr (parF t) (a + 1) D = 0 := by rw [itr_succ, h2]; exact par_none h.top
    rw [show a + 1 + (m - (a + 1)) = m by omega, q, e2, itr_zero (parF_zero h.ok)] at e1
    exact e1
  have h3 := (blw_iff h.ok hi 24 D).2 ⟨m, hm, q⟩
  unfold blwB at hb
  rw [hb] at h3
  cases h3
theorem mv_kpo {t : List Nd} {op : List Int} (h : Tro t (fun j => j ∈ op)) (hO : ∀ j ∈ op, (tget t j).kind ≠ 2) {c : Wh} {p q : Nm} : Kpo t (mvT t c (resM t c p false) (resM t c q false) op) op := by
  unfold mvT
  by_cases hz : mvE t c (resM t c p false) (resM t c q false) ≠ 0 ∨ (resM t c q false).1.node = (resM t c p false).1.node
  · rw [if_pos hz]
    exact kpo_refl h
  · rw [if_neg hz]
    have hz1 : mvE t c (resM t c p false) (resM t c q false) = 0 := Classical.byContradiction (fun z => hz (.inl z))
    have hne : (resM t c q false).1.node ≠ (resM t c p false).1.node := fun z => hz (.inr z)
    obtain ⟨h1, h2, h3⟩ := mv_zero hz1
    obtain ⟨E, hi⟩ := fn_ent h.ok h1
    obtain ⟨y1, -, y3, y4, y5⟩ := mvY_zero h3 hne
    have G := res_ent h.ok h2 y1
    exact move_kpo h hO (mv3_is h.ok E.kind E.found hi G.kind G.found hne G.nam y4).1 E.found hi G.kind G.found (fun z => blw_notO h G.kind hi (y3 z)) (fun z => (y5 z).2)
end Go.Proofs.YtnkjaocmfhjnoaaGreat
namespace Go.Proofs.YtnkjaocmfhjnoaaGreat
open Go Go.RowKit
set_option maxRecDepth 100000

def modN (n : Nd) (m u g : Int) : Nd := ⟨n.kind, m, u, g, n.data, n.ents, n.target⟩
end Go.Proofs.YtnkjaocmfhjnoaaGreat
namespace Go.Proofs.YtnkjaocmfhjnoaaGreat
open Go Go.RowKit
set_option maxRecDepth 100000

def mayM (c : Wh) (x : Int) : Bool := c.u == 0 || x == c.u
def mayO (c : Wh) (n : Nd) (uid gid : Int) : Bool := mayOwn c.u c.g c.gs n.uid n.gid uid gid
def chmN (c : Wh) (n : Nd) (mode : Int) : Nd := modN n (modeM c.u c.g c.gs n.kind n.gid mode) n.uid n.gid
def chwN (c : Wh) (n : Nd) (uid gid : Int) : Nd := modN n (writM c.u n.kind n.mode) (if uid < 0 then n.uid else uid) (if gid < 0 then n.gid else gid)
def chmF (t : List Nd) (c : Wh) (R : Sta × Int) : Int := if R.2 ≠ 0 then R.2 else if mayM c (tget t R.1.node).uid = false then 1 else 0
def chwF (t : List Nd) (c : Wh) (R : Sta × Int) (uid gid : Int) : Int := if R.2 ≠ 0 then R.2 else if mayO c (tget t R.1.node) uid gid = false then 1 else 0
def chmE (t : List Nd) (c : Wh) (p : Nm) (mode : Int) : Int := if mode < 0 ∨ 4095 < mode then 22 else chmF t c (staM t c p true)
def chwE (t : List Nd) (c : Wh) (p : Nm) (uid gid : Int) (f : Bool) : Int := if 65535 < uid ∨ 65535 < gid then 22 else chwF t c (staM t c p f) uid gid
def chmT (t : List Nd) (c : Wh) (p : Nm) (mode : Int) : List Nd :=
  if chmE t c p mode ≠ 0 then t else setT t (staM t c p true).1.node (chmN c (tget t (staM t c p true).1.node) mode)
def chwT (t : List Nd) (c : Wh) (p : Nm) (uid gid : Int) (f : Bool) : List Nd :=
  if chwE t c p uid gid f ≠ 0 then t else if uid < 0 ∧ gid < 0 then t else setT t (staM t c p f).1.node (chwN c (tget t (staM t c p f).1.node) uid gid)
theorem chm_zero {t : List Nd} {c : Wh} {p : Nm} {mode : Int} (h : chmE t c p mode = 0) : (0 ≤ mode ∧ mode ≤ 4095) ∧ (staM t c p true).2 = 0 ∧ mayM c (tget t (staM t c p true).1.node).uid = true := by
  unfold chmE at h
  split at h
  · exact absurd h (by decide)
  · rename_i q
    unfold chmF at h
    split at h
    · rename_i r
      exact absurd h r
    · rename_i r
      split at h
      · exact absurd h (by decide)
      · rename_i s
        exact ⟨by omega, Classical.byContradiction r, by simpa using s⟩
theorem chw_zero {t : List Nd} {c : Wh} {p : Nm} {uid gid : Int} {f : Bool} (h : chwE t c p uid gid f = 0) : (uid ≤ 65535 ∧ gid ≤ 65535) ∧ (staM t c p f).2 = 0 ∧ mayO c (tget t (staM t c p f).1.node) uid gid = true := by
  unfold chwE at h
  split at h
  · exact absurd h (by decide)
  · rename_i q
    unfold chwF at h
    split at h
    · rename_i r
      exact absurd h r
    · rename_i r
      split at h
      · exact absurd h (by decide)
      · rename_i s
        exact ⟨by omega, Classical.byContradiction r, by simpa using s⟩
theorem chmT_err {t : List Nd} {c : Wh} {p : Nm} {mode : Int} (h : chmE t c p mode ≠ 0) : chmT t c p mode = t := if_pos h
theorem chwT_err {t : List Nd} {c : Wh} {p : Nm} {uid gid : Int} {f : Bool} (h : chwE t c p uid gid f ≠ 0) : chwT t c p uid gid f = t := if_pos h
theorem chmT_set {t : List Nd} {c : Wh} {p : Nm} {mode : Int} (h : chmE t c p mode = 0) : chmT t c p mode = setT t (staM t c p true).1.node (chmN c (tget t (staM t c p true).1.node) mode) := if_neg (fun q => q h)
theorem chwT_set {t : List Nd} {c : Wh} {p : Nm} {uid gid : Int} {f : Bool} (h : chwE t c p uid gid f = 0) (hn : ¬ (uid < 0 ∧ gid < 0)) : chwT t c p uid gid f = setT t (staM t c p f).1.node (chwN c (tget t (staM t c p f).1.node) uid gid) := by
  unfold chwT
  rw [if_neg (fun q => q h), if_neg hn]
theorem chwT_none {t : List Nd} {c : Wh} {p : Nm} {uid gid : Int} {f : Bool} (hn : uid < 0 ∧ gid < 0) : chwT t c p uid gid f = t := by
  unfold chwT
  split
  · rfl
  · rfl
theorem sta_there {t : List Nd} {c : Wh} {p : Nm} {f : Bool} (h : (staM t c p f).2 = 0) : tis t (staM t c p f).1.node = true ∧ (1 ≤ (staM t c p f).1.node ∧ (staM t c p f).1.node ≤ t.length) := by
  obtain ⟨-, h2, -, -⟩ := staM_zero h
  exact ⟨h2, tis_in h2⟩
theorem chm_right {n : Nd} (h : rightP n) (hk : n.kind ≠ 3) (c : Wh) (mode : Int) : rightP (chmN c n mode) := by
  have hb := mode_bd c.u c.g c.gs n.kind n.gid mode
  refine ⟨⟨⟨hb.1, by show _ ≤ (4095 : Int); have := hb.2; exact Int.lt_add_one_iff.1 this⟩, h.1.2⟩, ?_⟩
  rcases h.2 with q | q | q
  · exact .inl q
  · exact .inr (.inl q)
  · exact absurd q.1 hk
theorem chw_right {n : Nd} (h : rightP n) (c : Wh) {uid gid : Int} (hu : uid ≤ 65535) (hg : gid ≤ 65535) : rightP (chwN c n uid gid) := by
  have hb := writ_bd c.u n.kind n.mode
  refine ⟨⟨⟨hb.1, by show _ ≤ (4095 : Int); have := hb.2; exact Int.lt_add_one_iff.1 this⟩, ?_, ?_⟩, ?_⟩
  · show 0 ≤ (if uid < 0 then n.uid else uid) ∧ (if uid < 0 then n.uid else uid) ≤ 65535
    split
    · exact h.1.2.1
    · omega
  · show 0 ≤ (if gid < 0 then n.gid else gid) ∧ (if gid < 0 then n.gid else gid) ≤ 65535
    split
    · exact h.1.2.2
    · omega
  · rcases h.2 with q | q | q
    · exact .inl q
    · exact .inr (.inl q)
    · refine .inr (.inr ⟨q.1, q.2.1, q.2.2.1, ?_, q.2.2.2.2⟩)
      show writM c.u n.kind n.mode = 511
      rw [writ_all (.inr (by rw [q.1]; decide)) (by rw [q.2.2.2.1]; decide) (by rw [q.2.2.2.1]; decide), q.2.2.2.1]
end Go.Proofs.YtnkjaocmfhjnoaaGreat
namespace Go.Proofs.YtnkjaocmfhjnoaaGreat
open Go Go.RowKit
set_option maxRecDepth 100000

theorem ents_nil : entsP [] := ⟨fun e h => (by cases h), List.Pairwise.nil, by decide⟩
end Go.Proofs.YtnkjaocmfhjnoaaGreat
namespace Go.Proofs.YtnkjaocmfhjnoaaGreat
open Go Go.RowKit
set_option maxRecDepth 100000

section
variable {t : List Nd} {c : Wh} {F : Fo} {k m : Int} {tg : Nm}
theorem pl_pre {x : Int} (h : x ≠ 0) : plE t c (F, x) k m tg = x := if_pos h
theorem pl_w17 (h : F.node ≠ 0) : plE t c (F, 0) k m tg = 17 := by
  unfold plE
  rw [if_neg (fun q => q rfl), if_pos h]
theorem pl_w13 (h : F.node = 0) (h2 : canT t c F.dir 3 = false) : plE t c (F, 0) k m tg = 13 := by
  unfold plE
  rw [if_neg (fun q => q rfl), if_neg (fun q => q h), if_pos h2]
theorem pl_w28 (h : F.node = 0) (h2 : canT t c F.dir 3 = true) (h3 : 8 ≤ (tget t F.dir).ents.length ∨ usedT t = t.length) : plE t c (F, 0) k m tg = 28 := by
  unfold plE
  rw [if_neg (fun q => q rfl), if_neg (fun q => q h), if_neg (by rw [h2]; decide), if_pos h3]
theorem pl_wr (h : F.node = 0) (h2 : canT t c F.dir 3 = true) (h3 : ¬ (8 ≤ (tget t F.dir).ents.length ∨ usedT t = t.length)) : plE t c (F, 0) k m tg = if toB (rightP (plR t c F k m tg).nd) = false then 22 else 0 := by
  unfold plE
  rw [if_neg (fun q => q rfl), if_neg (fun q => q h), if_neg (by rw [h2]; decide), if_neg h3]
theorem pl_w0 (hk : k ≠ 4) (h : F.node = 0) (h2 : canT t c F.dir 3 = true) (h3 : ¬ (8 ≤ (tget t F.dir).ents.length ∨ usedT t = t.length)) (hd : (tget t F.dir).kind = 2) (hn : nok F.name = true) (hm : ¬ F.name ∈ nmE (tget t F.dir).ents) (hr : rightP (plR t c F k m tg).nd) :
    plE t c (F, 0) k m tg = 0 ∧ plT t c (F, 0) k m tg = setT (setT t (freeT t 0) (plR t c F k m tg).nd) F.dir (withM (tget t F.dir) F.name (freeT t 0)) ∧ plI t c (F, 0) k m tg = freeT t 0 ∧ withE (tget t F.dir) F.name (freeT t 0) = 0 ∧ freeT t 0 ≠ 0 := by
  have e0 : plE t c (F, 0) k m tg = 0 := by rw [pl_wr h h2 h3, toB_true hr, if_neg (by decide)]
  have hf : freeT t 0 ≠ 0 := fun q => h3 (.inr (free_none.1 q))
  have h8 : (tget t F.dir).ents.length < 8 := Nat.lt_of_not_le (fun q => h3 (.inl q))
  obtain ⟨c1, -, -⟩ := free_is hf
  have hw : withE (tget t F.dir) F.name (freeT t 0) = 0 := withE_zero.2 ⟨hd, c1.1, hn, hm, h8⟩
  have he : enE t (plR t c F k m tg) = 0 := en_zero.2 (.inr ⟨hk, hr, hf⟩)
  have hI : enI t (plR t c F k m tg) = freeT t 0 := by unfold enI; rw [if_pos he]; exact if_neg hk
  have hE : enT t (plR t c F k m tg) = setT t (freeT t 0) (plR t c F k m tg).nd := by unfold enT; rw [if_pos he]; exact if_neg hk
  refine ⟨e0, ?_, by unfold plI; rw [if_pos e0], hw, hf⟩
  unfold plT
  rw [if_pos e0]
  show blT t (plR t c F k m tg) = _
  unfold blT
  rw [hE, hI]
  rfl
end
end Go.Proofs.YtnkjaocmfhjnoaaGreat
namespace Go.Proofs.YtnkjaocmfhjnoaaGreat
open Go Go.RowKit
set_option maxRecDepth 100000

def isN (name : Nm) (e : En) : Bool := e.1 == name
def gtN (name : Nm) (e : En) : Bool := lss name e.1
theorem gt_lss (a b : Nm) : (!(lss a b || a == b)) = lss b a := by
  by_cases h : a = b
  · subst h
    simp [lss_irrefl]
  · have hb : (a == b) = false := by rw [beq_eq_false_iff_ne]; exact h
    rw [hb, Bool.or_false]
    cases hl : lss a b with
    | true => rw [lss_asymm hl]; rfl
    | false => rw [lss_of hl h]; rfl
def plcI (p : En → Bool) (l : List En) : Int := if l.findIdx p < l.length then (l.findIdx p : Int) else -1
theorem clOf (n name : Nm) (i : Int) (b : Nat) (w : World) (hb : w.cell? ⟨b, 0, none⟩ = some (.string (bA name))) :
    Calls Tryz.prog 189 #[.agg #[.string (bA n), .int .i64 i], .pointer (some ⟨b, 0, none⟩)] w fun e w' => e = .returned (.bool (isN name (n, i))) ∧ Below w.heap.size w w' := by
  have hb1 := bc (ba w (.cells #[.string (bA n), .int .i64 i] 126)) hb
  have HF := Lib.hid (show ((bA n).toList == (bA name).toList) = isN name (n, i) by rw [bA_list, bA_list]; first | rfl | (rw [← Bool.not_or]; exact gt_lss n name))
  go_enter Tryz.func189, Tryz.ntmps189
  go_wp2
  go_ret
  exact ⟨ret_bool HF.out, ba _ _⟩
theorem ixOf (v : Value) (l : List En) (name : Nm) (b : Nat) (w : World) (hR : EntsR w v l) (hb : w.cell? ⟨b, 0, none⟩ = some (.string (bA name))) (hn : l.length ≤ 1000000) :
    Calls Tryz.prog 121 #[v, .func (.func 189) #[] #[.pointer (some ⟨b, 0, none⟩)]] w fun e w' => e = .returned (.int .i64 (plcI (isN name) l)) ∧ Below w.heap.size w w' := by
  obtain ⟨A, c, rfl⟩ := ents_form hR rfl
  have HR := Lib.hid hR
  have HC := Lib.hid hb
  clear hR hb
  have hFl : l.findIdx (isN name) ≤ l.length := List.findIdx_le_length
  have HLT := Lib.hid (fun (k : Nat) (e : En) (hk : l[k]? = some e) (h : k < l.findIdx (isN name)) => show isN name e = false by
    have h2 := List.not_of_lt_findIdx h
    obtain ⟨h3, h4⟩ := List.getElem?_eq_some_iff.1 hk
    rw [h4] at h2
    simpa using h2)
  have HEQ := Lib.hid (fun (k : Nat) (e : En) (hk : l[k]? = some e) (h : k = l.findIdx (isN name)) => show isN name e = true by
    subst h
    obtain ⟨h3, h4⟩ := List.getElem?_eq_some_iff.1 hk
    have h2 := List.findIdx_getElem (w := h3)
    rw [h4] at h2
    exact h2)
  have HX := Lib.hid (show plcI (isN name) l = if l.findIdx (isN name) < l.length then (l.findIdx (isN name) : Int) else -1 from rfl)
  generalize plcI (isN name) l = X at HX ⊢
  generalize l.findIdx (isN name) = F at hFl HLT HEQ HX
  go_enter Tryz.func121, Tryz.ntmps121
  go_wp2
  go_loopg [8] l.length (fun g s8 wr => ∃ k : Nat, s8 = .int .i64 k ∧ k ≤ F ∧ g = l.length - k ∧ Below w.heap.size w wr)
  case atStart => exact ⟨0, rfl, Nat.zero_le _, rfl, Below.refl _ _⟩
  case round =>
    obtain ⟨k, rfl, hk, rfl, hbr⟩ := hrel
    have HB := Lib.hid hbr
    clear hbr
    by_cases hlt : k < l.length
    · obtain ⟨e, he⟩ : ∃ e, l[k]? = some e := ⟨_, List.getElem?_eq_getElem hlt⟩
      obtain ⟨ad, rfl, c0, c1⟩ := ents_get (HR.out.below HB.out) he
      have HE := Lib.hid he
      clear he
      by_cases hkF : k = F
      · have HP := Lib.hid (HEQ.out k e HE.out hkF)
        have HX2 := Lib.hid (show X = (k : Int) by rw [HX.out, if_pos (by omega), hkF])
        clear hkF
        go_wp2_with fail
        refine (clOf e.1 name e.2 b _ (bc HB.out HC.out)).mono ?_
        rintro e3 w3 ⟨rfl, hb3⟩
        have HB3 := Lib.hid (bt hb3 HB.out)
        clear hb3 c0 c1
        rw [show (e.1, e.2) = e from rfl, HP.out]
        go_wp2
        go_ret
        exact ⟨ret_int HX2.out.symm, HB3.out⟩
      · have HP := Lib.hid (HLT.out k e HE.out (by omega))
        have hkF2 : k + 1 ≤ F := by omega
        clear hkF
        go_wp2_with fail
        refine (clOf e.1 name e.2 b _ (bc HB.out HC.out)).mono ?_
        rintro e3 w3 ⟨rfl, hb3⟩
        have HB3 := Lib.hid (bt hb3 HB.out)
        clear hb3 c0 c1
        rw [show (e.1, e.2) = e from rfl, HP.out]
        go_wp2
        go_roundg (l.length - (k + 1))
        case measure => omega
        case rel => exact ⟨k + 1, by go_num, by omega, rfl, HB3.out⟩
    · have HX2 := Lib.hid (show X = -1 by rw [HX.out, if_neg (by omega)])
      go_wp2
      go_ret
      exact ⟨ret_int HX2.out.symm, HB.out⟩
theorem clFor (n name : Nm) (i : Int) (b : Nat) (w : World) (hb : w.cell? ⟨b, 0, none⟩ = some (.string (bA name))) :
    Calls Tryz.prog 165 #[.agg #[.string (bA n), .int .i64 i], .pointer (some ⟨b, 0, none⟩)] w fun e w' => e = .returned (.bool (gtN name (n, i))) ∧ Below w.heap.size w w' := by
  have hb1 := bc (ba w (.cells #[.string (bA n), .int .i64 i] 126)) hb
  have HF := Lib.hid (show (!Op.bytesLess (bA n).toList (bA name).toList && !((bA n).toList == (bA name).toList)) = gtN name (n, i) by rw [bA_list, bA_list]; first | rfl | (rw [← Bool.not_or]; exact gt_lss n name))
  go_enter Tryz.func165, Tryz.ntmps165
  go_wp2
  go_ret
  exact ⟨ret_bool HF.out, ba _ _⟩
theorem ixFor (v : Value) (l : List En) (name : Nm) (b : Nat) (w : World) (hR : EntsR w v l) (hb : w.cell? ⟨b, 0, none⟩ = some (.string (bA name))) (hn : l.length ≤ 1000000) :
    Calls Tryz.prog 121 #[v, .func (.func 165) #[] #[.pointer (some ⟨b, 0, none⟩)]] w fun e w' => e = .returned (.int .i64 (plcI (gtN name) l)) ∧ Below w.heap.size w w' := by
  obtain ⟨A, c, rfl⟩ := ents_form hR rfl
  have HR := Lib.hid hR
  have HC := Lib.hid hb
  clear hR hb
  have hFl : l.findIdx (gtN name) ≤ l.length := List.findIdx_le_length
  have HLT := Lib.hid (fun (k : Nat) (e : En) (hk : l[k]? = some e) (h : k < l.findIdx (gtN name)) => show gtN name e = false by
    have h2 := List.not_of_lt_findIdx h
    obtain ⟨h3, h4⟩ := List.getElem?_eq_some_iff.1 hk
    rw [h4] at h2
    simpa using h2)
  have HEQ := Lib.hid (fun (k : Nat) (e : En) (hk : l[k]? = some e) (h : k = l.findIdx (gtN name)) => show gtN name e = true by
    subst h
    obtain ⟨h3, h4⟩ := List.getElem?_eq_some_iff.1 hk
    have h2 := List.findIdx_getElem (w := h3)
    rw [h4] at h2
    exact h2)
  have HX := Lib.hid (show plcI (gtN name) l = if l.findIdx (gtN name) < l.length then (l.findIdx (gtN name) : Int) else -1 from rfl)
  generalize plcI (gtN name) l = X at HX ⊢
  generalize l.findIdx (gtN name) = F at hFl HLT HEQ HX
  go_enter Tryz.func121, Tryz.ntmps121
  go_wp2
  go_loopg [8] l.length (fun g s8 wr => ∃ k : Nat, s8 = .int .i64 k ∧ k ≤ F ∧ g = l.length - k ∧ Below w.heap.size w wr)
  case atStart => exact ⟨0, rfl, Nat.zero_le _, rfl, Below.refl _ _⟩
  case round =>
    obtain ⟨k, rfl, hk, rfl, hbr⟩ := hrel
    have HB := Lib.hid hbr
    clear hbr
    by_cases hlt : k < l.length
    · obtain ⟨e, he⟩ : ∃ e, l[k]? = some e := ⟨_, List.getElem?_eq_getElem hlt⟩
      obtain ⟨ad, rfl, c0, c1⟩ := ents_get (HR.out.below HB.out) he
      have HE := Lib.hid he
      clear he
      by_cases hkF : k = F
      · have HP := Lib.hid (HEQ.out k e HE.out hkF)
        have HX2 := Lib.hid (show X = (k : Int) by rw [HX.out, if_pos (by omega), hkF])
        clear hkF
        go_wp2_with fail
        refine (clFor e.1 name e.2 b _ (bc HB.out HC.out)).mono ?_
        rintro e3 w3 ⟨rfl, hb3⟩
        have HB3 := Lib.hid (bt hb3 HB.out)
        clear hb3 c0 c1
        rw [show (e.1, e.2) = e from rfl, HP.out]
        go_wp2
        go_ret
        exact ⟨ret_int HX2.out.symm, HB3.out⟩
      · have HP := Lib.hid (HLT.out k e HE.out (by omega))
        have hkF2 : k + 1 ≤ F := by omega
        clear hkF
        go_wp2_with fail
        refine (clFor e.1 name e.2 b _ (bc HB.out HC.out)).mono ?_
        rintro e3 w3 ⟨rfl, hb3⟩
        have HB3 := Lib.hid (bt hb3 HB.out)
        clear hb3 c0 c1
        rw [show (e.1, e.2) = e from rfl, HP.out]
        go_wp2
        go_roundg (l.length - (k + 1))
        case measure => omega
        case rel => exact ⟨k + 1, by go_num, by omega, rfl, HB3.out⟩
    · have HX2 := Lib.hid (show X = -1 by rw [HX.out, if_neg (by omega)])
      go_wp2
      go_ret
      exact ⟨ret_int HX2.out.symm, HB.out⟩
theorem placeOf_any (v : Value) (l : List En) (name : Nm) (w : World) (hR : EntsR w v l) (hn : l.length ≤ 1000000) :
    Calls Tryz.prog 160 #[v, .string (bA name)] w fun e w' => e = .returned (.int .i64 (plcI (isN name) l)) ∧ Below w.heap.size w w' := by
  have hmf : ∀ (fn : Fn) (first cap : Array Value) (w : World), (Instr.makeFunc fn first cap).run Tryz.prog w = .ok (.func fn first cap) w := fun _ _ _ _ => rfl
  have H := Lib.hid (ixOf v l name w.heap.size _ (hR.below (ba w (.cells #[.string (bA name)] 9))) (by simp) hn)
  have HB := Lib.hid (ba w (.cells #[.string (bA name)] 9))
  clear hR
  generalize plcI (isN name) l = X at H ⊢
  go_enter Tryz.func160, Tryz.ntmps160
  go_wp2_with fail
  refine H.out.mono ?_
  rintro e w2 ⟨rfl, hb2⟩
  have HB2 := Lib.hid (bt hb2 HB.out)
  clear hb2
  go_wp2
  go_ret
  exact ⟨rfl, HB2.out⟩
theorem placeFor_any (v : Value) (l : List En) (name : Nm) (w : World) (hR : EntsR w v l) (hn : l.length ≤ 1000000) :
    Calls Tryz.prog 120 #[v, .string (bA name)] w fun e w' => e = .returned (.int .i64 (l.findIdx (gtN name) : Nat)) ∧ Below w.heap.size w w' := by
  have hmf : ∀ (fn : Fn) (first cap : Array Value) (w : World), (Instr.makeFunc fn first cap).run Tryz.prog w = .ok (.func fn first cap) w := fun _ _ _ _ => rfl
  have H := Lib.hid (ixFor v l name w.heap.size _ (hR.below (ba w (.cells #[.string (bA name)] 9))) (by simp) hn)
  have HB := Lib.hid (ba w (.cells #[.string (bA name)] 9))
  obtain ⟨A, c, rfl⟩ := ents_form hR rfl
  clear hR
  have hFl : l.findIdx (gtN name) ≤ l.length := List.findIdx_le_length
  unfold plcI at H
  generalize l.findIdx (gtN name) = F at H hFl ⊢
  by_cases h : F < l.length
  · rw [if_pos h] at H
    go_enter Tryz.func120, Tryz.ntmps120
    go_wp2_with fail
    refine H.out.mono ?_
    rintro e w2 ⟨rfl, hb2⟩
    have HB2 := Lib.hid (bt hb2 HB.out)
    clear hb2
    go_wp2
    go_ret
    exact ⟨rfl, HB2.out⟩
  · rw [if_neg h] at H
    have hF := Lib.hid (show l.length = F by omega)
    go_enter Tryz.func120, Tryz.ntmps120
    go_wp2_with fail
    refine H.out.mono ?_
    rintro e w2 ⟨rfl, hb2⟩
    have HB2 := Lib.hid (bt hb2 HB.out)
    clear hb2
    go_wp2
    go_ret
    exact ⟨ret_int (by rw [hF.out]), HB2.out⟩
end Go.Proofs.YtnkjaocmfhjnoaaGreat
namespace Go.Proofs.YtnkjaocmfhjnoaaGreat
open Go Go.RowKit
set_option maxRecDepth 100000

theorem run_copy_rowK {P : Program} (w : World) (dT sT ty elem : TypeId) (g o dLen dCap : Nat) (a : Addr) (sLen sCap : Nat) (cur : Array Value) (t : TypeId) (cs : List Value) (size : Nat)
    (hu : P.underlying dT = some (.slice elem)) (hs : (P.info? elem).map (·.size) = some size)
    (hg : w.heap[g]? = some (.cells cur t (0, 0))) (hn : cs.length = Nat.min sLen dLen * size)
    (hsrc : ∀ j v, cs[j]? = some v → w.cell? (a.add j) = some v) (hfit : o + cs.length ≤ cur.size) (h1 : ∀ v ∈ cs, v.oneCell' = true) :
    (Builtin.copy_ #[dT, sT] ty #[.slice (some ⟨g, o, none⟩) dLen dCap, .slice (some a) sLen sCap]).run P w =
      .ok (goInt (Nat.min sLen dLen)) (w.setRow g (cur.toList.take o ++ cs ++ cur.toList.drop (o + cs.length)).toArray) := by
  have hl := run_loadCells_list (P := P) w a cs hsrc
  have hst := run_storeCells_at P g o t cs 0 cur w hg (by simpa using hfit) h1
  cases hq : P.info? elem with
  | none => simp [hq] at hs
  | some i =>
    have hi : i.size = size := by simpa [hq] using hs
    have hn' := hn
    rw [← hi] at hn'
    simp [Builtin.copy_, run_underlying hu, Builtin.lenOf, Builtin.firstCells, sizeOf, typeInfo, hq, ← hn', hl, hst]
theorem make_ents (n : Nat) (hn : n ≤ 1000000) (w : World) : ∃ cs : Array Value, cs.size = n * 2 ∧ (Instr.makeSlice 63 (.int .i64 (n : Int)) (.int .i64 (n : Int))).run Tryz.prog w = .ok (.slice (some ⟨w.heap.size, 0, none⟩) n n) (w.alloc (.cells cs 126)) := by
  obtain ⟨i, hi0, hz0, hz1, hz2⟩ := info_parts info_ent
  have h := run_make (P := Tryz.prog) w 63 126 i _ Tryz.underlying63 hi0 hz0 .i64 .i64 n n (by omega) (Int.le_refl _) (by rw [hz2]; omega) (by omega)
  simp only [Int.toNat_natCast, hz1] at h
  exact ⟨_, size_madeCells _ _, h⟩
theorem make_bytes (n : Nat) (hn : n ≤ 1000000) (w : World) : ∃ cs : Array Value, cs.size = n ∧ (Instr.makeSlice 46 (.int .i64 (n : Int)) (.int .i64 (n : Int))).run Tryz.prog w = .ok (.slice (some ⟨w.heap.size, 0, none⟩) n n) (w.alloc (.cells cs 5)) := by
  obtain ⟨i, hi0, hz0, hz1, hz2⟩ := info_parts info_u8
  have h := run_make (P := Tryz.prog) w 46 5 i _ Tryz.underlying46 hi0 hz0 .i64 .i64 n n (by omega) (Int.le_refl _) (by rw [hz2]; omega) (by omega)
  simp only [Int.toNat_natCast, hz1, Nat.mul_one] at h
  exact ⟨_, size_madeCells _ _, h⟩
theorem row_whole {cur : Array Value} {cs : List Value} (h : cs.length = cur.size) : (cur.toList.take 0 ++ cs ++ cur.toList.drop (0 + cs.length)) = cs := by
  rw [List.take_zero, List.nil_append, List.drop_eq_nil_of_le (by simp; omega), List.append_nil]
set_option maxRecDepth 100000 in
theorem copyE_any (v : Value) (l : List En) (w : World) (hR : EntsR w v l) (hn : l.length ≤ 1000000) :
    Calls Tryz.prog 162 #[v] w fun e w' => ∃ v', e = .returned v' ∧ EntsX w' w.heap.size v' l ∧ Below w.heap.size w w' := by
  obtain ⟨A, c, rfl⟩ := ents_form hR rfl
  cases l with
  | nil =>
    clear hR
    simp only [List.length_nil]
    go_enter Tryz.func162, Tryz.ntmps162
    go_wp2
    go_ret
    exact ⟨_, rfl, .inl ⟨rfl, rfl⟩, Below.refl _ _⟩
  | cons e r =>
    obtain ⟨L, hL⟩ : ∃ L, L = e :: r := ⟨_, rfl⟩
    rw [← hL] at hR hn ⊢
    obtain ⟨ad, rfl, -⟩ := ents_get hR (show L[0]? = some e by rw [hL]; rfl)
    have hp : 0 < L.length := by rw [hL]; simp
    clear hL
    obtain ⟨cs, hcs, hmk⟩ := make_ents L.length hn w
    obtain ⟨W1, hW1⟩ : ∃ W1, W1 = w.alloc (.cells cs 126) := ⟨_, rfl⟩
    have hB1 : Below w.heap.size w W1 := by rw [hW1]; exact ba _ _
    have hk1 : Blk W1 w.heap.size 126 cs := by rw [hW1]; exact Blk.new _ _ _
    rw [← hW1] at hmk
    have hcp := run_copy_rowK (P := Tryz.prog) W1 63 63 3 126 w.heap.size 0 L.length L.length ad L.length c cs _ (eCells L) 2 Tryz.underlying63 size_ent hk1 (by rw [eCells_len]; exact congrArg (· * 2) (Nat.min_self _).symm) (ents_src (hR.below hB1)) (by rw [eCells_len]; omega) (eCells_one L)
    rw [row_whole (by rw [eCells_len]; omega), show Nat.min L.length L.length = L.length from Nat.min_self _] at hcp
    have HE := Lib.hid (show EntsX (W1.setRow w.heap.size (eCells L).toArray) w.heap.size (.slice (some ⟨w.heap.size, 0, none⟩) L.length L.length) L from .inr ⟨_, Nat.le_refl _, rfl, hp, blk_setRow hk1⟩)
    have HB := Lib.hid (show Below w.heap.size w (W1.setRow w.heap.size (eCells L).toArray) from below_setRow hB1 (Nat.le_refl _) _)
    have hz : ((L.length : Int) == 0) = false := by rw [beq_eq_false_iff_ne]; omega
    clear hW1 hB1 hk1 hR hcs hp
    generalize W1.setRow w.heap.size (eCells L).toArray = W2 at hcp HE HB
    go_enter Tryz.func162, Tryz.ntmps162
    go_wp2
    go_ret
    exact ⟨_, rfl, HE.out, HB.out⟩
set_option maxRecDepth 100000 in
theorem copyB_any (v : Value) (l : List UInt8) (w : World) (hR : BytesR w v l) (hn : l.length ≤ 1000000) :
    Calls Tryz.prog 161 #[v] w fun e w' => ∃ v', e = .returned v' ∧ BytesX w' w.heap.size v' l ∧ Below w.heap.size w w' := by
  obtain ⟨A, c, rfl⟩ := bytes_form hR rfl
  cases l with
  | nil =>
    clear hR
    simp only [List.length_nil]
    go_enter Tryz.func161, Tryz.ntmps161
    go_wp2
    go_ret
    exact ⟨_, rfl, .inl ⟨rfl, rfl⟩, Below.refl _ _⟩
  | cons e r =>
    obtain ⟨L, hL⟩ : ∃ L, L = e :: r := ⟨_, rfl⟩
    rw [← hL] at hR hn ⊢
    obtain ⟨ad, rfl, -⟩ := bytes_get hR (show L[0]? = some e by rw [hL]; rfl)
    have hp : 0 < L.length := by rw [hL]; simp
    clear hL
    obtain ⟨cs, hcs, hmk⟩ := make_bytes L.length hn w
    obtain ⟨W1, hW1⟩ : ∃ W1, W1 = w.alloc (.cells cs 5) := ⟨_, rfl⟩
    have hB1 : Below w.heap.size w W1 := by rw [hW1]; exact ba _ _
    have hk1 : Blk W1 w.heap.size 5 cs := by rw [hW1]; exact Blk.new _ _ _
    rw [← hW1] at hmk
    have hcp := run_copy_rowK (P := Tryz.prog) W1 46 46 3 5 w.heap.size 0 L.length L.length ad L.length c cs _ (bCells L) 1 Tryz.underlying46 size_u8 hk1 (by rw [bCells_len, Nat.mul_one]; exact (Nat.min_self _).symm) (bytes_src (hR.below hB1)) (by rw [bCells_len]; omega) (bCells_one L)
    rw [row_whole (by rw [bCells_len]; omega), show Nat.min L.length L.length = L.length from Nat.min_self _] at hcp
    have HE := Lib.hid (show BytesX (W1.setRow w.heap.size (bCells L).toArray) w.heap.size (.slice (some ⟨w.heap.size, 0, none⟩) L.length L.length) L from .inr ⟨_, Nat.le_refl _, rfl, blk_setRow hk1⟩)
    have HB := Lib.hid (show Below w.heap.size w (W1.setRow w.heap.size (bCells L).toArray) from below_setRow hB1 (Nat.le_refl _) _)
    have hz : ((L.length : Int) == 0) = false := by rw [beq_eq_false_iff_ne]; omega
    clear hW1 hB1 hk1 hR hcs hp
    generalize W1.setRow w.heap.size (bCells L).toArray = W2 at hcp HE HB
    go_enter Tryz.func161, Tryz.ntmps161
    go_wp2
    go_ret
    exact ⟨_, rfl, HE.out, HB.out⟩
end Go.Proofs.YtnkjaocmfhjnoaaGreat
namespace Go.Proofs.YtnkjaocmfhjnoaaGreat
open Go Go.RowKit
set_option maxRecDepth 100000

section
variable {w : World} {g : Nat} {t : TypeId} {a0 a1 a2 a3 a4 a5 a6 a7 : Value}
end
attribute [local go_sem] cell_off4 cell_blk4
set_option maxRecDepth 100000 in
set_option maxHeartbeats 4000000 in
theorem ncopied_any (n : Nd) (vd ve : Value) (w : World) (hd : BytesR w vd n.data) (he : EntsR w ve n.ents) (hnd : n.data.length ≤ 1000000) (hne : n.ents.length ≤ 1000000) :
    Calls Tryz.prog 118 #[nodeV n vd ve] w fun e w' => ∃ vd' ve', e = .returned (nodeV n vd' ve') ∧ BytesX w' w.heap.size vd' n.data ∧ EntsX w' w.heap.size ve' n.ents ∧ Below w.heap.size w w' := by
  obtain ⟨W1, hW1⟩ : ∃ W1, W1 = (w.alloc (.cells (ndC n vd ve) 65)).alloc (.cells ndZ 65) := ⟨_, rfl⟩
  have hb1 : Below w.heap.size w W1 := by rw [hW1]; exact al (ba _ _) _
  have hz1 : W1.heap.size = w.heap.size + 2 := by rw [hW1]; simp
  have hkb : Blk W1 w.heap.size 65 (ndC n vd ve) := by rw [hW1]; exact (Blk.new _ _ _).alloc _
  have hkr : Blk W1 (w.heap.size + 1) 65 ndZ := by rw [hW1]; have := Blk.new (w.alloc (.cells (ndC n vd ve) 65)) 65 ndZ; simpa using this
  have HCB := Lib.hid (copyB_any vd n.data W1 (hd.below hb1) hnd)
  have HE := Lib.hid he
  have HB1 := Lib.hid hb1
  have HKB := Lib.hid hkb
  have HKR := Lib.hid hkr
  have HZ1 := Lib.hid hz1
  obtain ⟨A1, c1, rfl⟩ := bytes_form hd rfl
  obtain ⟨A2, c2, rfl⟩ := ents_form he rfl
  clear hd he hb1 hkb hkr hz1
  subst hW1
  unfold nodeV
  go_enter Tryz.func118, Tryz.ntmps118
  go_wp2_with fail
  refine HCB.out.mono ?_
  rintro e w2 ⟨vd', rfl, hX2, hb2⟩
  obtain ⟨A3, c3, hv3⟩ := bytesX_form hX2
  subst hv3
  have HX2 := Lib.hid hX2
  have HB2 := Lib.hid hb2
  have hk2 := HKB.out.below hb2
  have HK2 := Lib.hid hk2
  obtain ⟨p0, p1, p2, p3, p4, p5, p6⟩ := hk2.c7
  obtain ⟨f0, f1, f2, f3, f4, f5, f6⟩ := hk2.f7
  have t4 : ∀ u, (w2.setCell ⟨w.heap.size, 4, none⟩ u).cell? ⟨w.heap.size, 4, none⟩ = some u := fun u => (hk2.set_ 4 u).cell 4
  clear hX2 hb2 hk2 HCB
  have HG3 := Lib.hid (grown_setCell w2 ⟨w.heap.size, 4, none⟩ (.slice A3 n.data.length c3))
  go_wp2_with fail
  have HK3 := Lib.hid (HK2.out.set7_4 (.slice A3 n.data.length c3))
  have HB3 := Lib.hid (below_grown (bt HB2.out HB1.out) HG3.out (Nat.le_refl _))
  have HX3 := Lib.hid (HX2.out.kept HK2.out (by decide) HG3.out)
  have HR3 := Lib.hid ((HKR.out.below HB2.out).kept HG3.out (by simp))
  refine (copyE_any _ n.ents _ (HE.out.below HB3.out) hne).mono ?_
  rintro e w4 ⟨ve', rfl, hX4, hb4⟩
  clear p0 p1 p2 p3 p4 p5 p6 f0 f1 f2 f3 f4 f5 f6 t4
  obtain ⟨A4, c4, hv4⟩ := entsX_form hX4
  subst hv4
  have HX4 := Lib.hid hX4
  have HY4 := Lib.hid (HX3.out.below hb4)
  have HB4 := Lib.hid (bt hb4 HB3.out)
  have hk4 := HK3.out.below hb4
  have HK4 := Lib.hid hk4
  have hr4 := HR3.out.below hb4
  have HR4 := Lib.hid hr4
  have HLE := Lib.hid (show w.heap.size ≤ (w2.setCell ⟨w.heap.size, 4, none⟩ (.slice A3 n.data.length c3)).heap.size from HB3.out.size)
  have HG5 := Lib.hid (grown_setCell w4 ⟨w.heap.size, 5, none⟩ (.slice A4 n.ents.length c4))
  have hr5 := hr4.kept HG5.out (by simp)
  have HR5 := Lib.hid hr5
  obtain ⟨p0, p1, p2, p3, p4, p5, p6⟩ := hk4.c7
  obtain ⟨f0, f1, f2, f3, f4, f5, f6⟩ := hk4.f7
  have t5 : ∀ u, (w4.setCell ⟨w.heap.size, 5, none⟩ u).cell? ⟨w.heap.size, 5, none⟩ = some u := fun u => (hk4.set7_5 u).cell 5
  obtain ⟨r0, r1, r2, r3, r4, r5, r6⟩ := hr5.c7
  obtain ⟨q0, q1, q2, q3, q4, q5, q6⟩ := hr5.f7
  obtain ⟨s0, s1, s2, s3, s4, s5, s6⟩ := hr5.s7
  clear hX4 hb4 hk4 hr4 hr5
  go_wp2
  have HG6 := Lib.hid (grown7 (w4.setCell ⟨w.heap.size, 5, none⟩ (.slice A4 n.ents.length c4)) (w.heap.size + 1) (.int .i64 n.kind) (.int .i64 n.mode) (.int .i64 n.uid) (.int .i64 n.gid) (.slice A3 n.data.length c3) (.slice A4 n.ents.length c4) (.string (bA n.target)))
  exact bodyPost_ret (v := nodeV n (.slice A3 n.data.length c3) (.slice A4 n.ents.length c4)) (by simp [results, Tryz.results118, go_sem, nodeV, s0, s1, s2, s3, s4, s5, s6]) rfl ⟨_, _, rfl, (((HY4.out.kept HK4.out (by decide) HG5.out).kept HR5.out (by decide) HG6.out).lower (by rw [HZ1.out]; omega)), ((HX4.out.kept HK4.out (by decide) HG5.out).kept HR5.out (by decide) HG6.out).lower HLE.out, below_grown (below_grown HB4.out HG5.out (Nat.le_refl _)) HG6.out (Nat.le_succ _)⟩
end Go.Proofs.YtnkjaocmfhjnoaaGreat
namespace Go.Proofs.YtnkjaocmfhjnoaaGreat
open Go Go.RowKit
set_option maxRecDepth 100000

theorem insert_end (v : Value) (l : List En) (B : Nat) (e : En) (vb : Nat) (w : World) (hX : EntsX w B v l) (hn : l.length ≤ 1000) (hB : B ≤ w.heap.size) (h0 : w.cell? ⟨vb, 0, none⟩ = some (.string (bA e.1))) (h1 : w.cell? ⟨vb, 1, none⟩ = some (.int .i64 e.2)) :
    Calls Tryz.prog 119 #[v, .int .i64 (l.length : Int), .slice (some ⟨vb, 0, none⟩) 1 1] w fun e' w' => ∃ v', e' = .returned v' ∧ EntsT w' v' (l ++ [e]) ∧ w.grownBy w' v.ownBlock := by
  have HO := Lib.hid (hX.own (by omega))
  obtain ⟨i, hi0, hz0, hz1, hz2⟩ := info_parts info_ent
  obtain ⟨A, c, rfl⟩ := entsX_form hX
  have hc : c = l.length := by
    rcases hX with ⟨h, rfl⟩ | ⟨g, -, h, -⟩
    · injection h with _ _ h
    · injection h with _ _ h
  subst hc
  have hsrc : Hid (∀ (j : Nat) (u : Value), [Value.string (bA e.1), .int .i64 e.2][j]? = some u → w.cell? ((⟨vb, 0, none⟩ : Addr).add j) = some u) := by
    intro j u hj
    rw [add_lit]
    match j, hj with
    | 0, hj => simp at hj; subst hj; exact h0
    | 1, hj => simp at hj; subst hj; exact h1
  have hle : l.length ≤ l.length := Nat.le_refl _
  clear hX
  go_enter Tryz.func119, Tryz.ntmps119
  go_wp2_with (at_builtin; refine wpList_append_own _ rfl (.tmp 23) (.tmp 24) _ rfl B 126 i _ 2 24 Tryz.underlying63 hi0 hz0 hz1 hz2 rfl (by decide) _ l.length (eCells l) rfl HO.out ⟨vb, 0, none⟩ 1 1 [.string (bA e.1), .int .i64 e.2] rfl rfl hsrc.out (ent_one e) (by unfold maxLen; omega) (by omega) hB ?_; intro v' w' ho hg _; have HO2 := Lib.hid ho; have HG := Lib.hid hg; obtain ⟨A', c', hv'⟩ := own_slice ho; subst hv'; clear ho hg)
  all_goals (
    go_ret
    refine ⟨_, rfl, EntsT.of_own (B := B) ?_, HG.out⟩
    have := HO2.out
    rw [eCells_app, List.length_append]
    exact this)
theorem zero_cells (n : Nat) : (Builtin.zeroCells (Value.agg #[.string ⟨#[]⟩, .int .i64 0]).cells n).size = n * 2 := by simp [Builtin.zeroCells, Value.cells]
theorem take_at {cur : List Value} {o : Nat} {cs : List Value} : (cur.take o ++ cs ++ cur.drop (o + cs.length)).length = min o cur.length + cs.length + (cur.length - (o + cs.length)) := by simp [Nat.add_assoc]
set_option maxHeartbeats 4000000 in
set_option maxRecDepth 100000 in
theorem insert_mid (g : Nat) (l : List En) (k : Nat) (e : En) (vb : Nat) (w : World) (hk : Blk w g 126 (eCells l).toArray) (hkl : k < l.length) (hn : l.length ≤ 1000) (h0 : w.cell? ⟨vb, 0, none⟩ = some (.string (bA e.1))) (h1 : w.cell? ⟨vb, 1, none⟩ = some (.int .i64 e.2)) :
    Calls Tryz.prog 119 #[.slice (some ⟨g, 0, none⟩) l.length l.length, .int .i64 (k : Int), .slice (some ⟨vb, 0, none⟩) 1 1] w fun e' w' => ∃ v', e' = .returned v' ∧ EntsT w' v' (l.take k ++ e :: l.drop k) ∧ Below w.heap.size w w' := by
  obtain ⟨i0, hi0, hz0, hzs, hzb⟩ := info_parts info_ent
  have hgl := hk.lt
  have hvl : vb < w.heap.size := World.block_lt_of_cell? _ _ h0
  have hcell : ∀ (j : Nat) (u : Value), (eCells l)[j]? = some u → w.cell? ⟨g, j, none⟩ = some u := by
    intro j u hj
    rw [hk.cell j, List.getElem?_toArray]
    exact hj
  have hlt : (eCells (l.take k)).length = k * 2 := by rw [eCells_len, List.length_take, Nat.min_eq_left (by omega)]
  have hld : (eCells (l.drop k)).length = (l.length - k) * 2 := by rw [eCells_len, List.length_drop]
  have hold : (Builtin.firstCells i0.size k (.slice (some ⟨g, 0, none⟩) k l.length)).run Tryz.prog w.drew = .ok (eCells (l.take k)).toArray w.drew := by
    rw [hzs]
    refine run_firstCells_some w.drew 2 k ⟨g, 0, none⟩ k l.length (eCells (l.take k)) hlt (fun j u hj => ?_)
    rw [add_lit]
    refine hcell j u ?_
    rw [← eCells_take, List.getElem?_take] at hj
    split at hj
    · exact hj
    · cases hj
  have hrz0 := fun ty => Lib.run_append_grow_zeros (P := Tryz.prog) w 63 3 ty 126 i0 _ .i64 .i64 Tryz.underlying63 Tryz.underlying3 hi0 hz0 (some ⟨g, 0, none⟩) k l.length (eCells (l.take k)) hold (l.length + 1 - k) (by omega) (by omega) (by omega) (by omega) (by rw [hzb]; omega) (by rw [hzb, show k + (l.length + 1 - k) = l.length + 1 by omega]; exact growslice_fits (by omega) (by omega))
  rw [show k + (l.length + 1 - k) = l.length + 1 by omega] at hrz0
  obtain ⟨G, hG⟩ : ∃ G, G = grownCap w (l.length + 1) l.length 126 := ⟨_, rfl⟩
  have hGn : l.length + 1 ≤ G := by rw [hG]; exact grownCap_ge w _ _ _
  have hG63 : G ≤ 9223372036854775807 := by
    have := grownCap_le_maxLen w (l.length + 1) l.length 126 (by unfold maxLen; omega)
    rw [← hG] at this
    unfold maxLen at this
    omega
  obtain ⟨ROW, hROW⟩ : ∃ ROW : Array Value, ROW = (eCells (l.take k)).toArray ++ Builtin.zeroCells (Value.agg #[.string ⟨#[]⟩, .int .i64 0]).cells (l.length + 1 - k) ++ Builtin.zeroCells (Value.agg #[.string ⟨#[]⟩, .int .i64 0]).cells (G - (l.length + 1)) := ⟨_, rfl⟩
  rw [← hG] at hrz0
  rw [← hROW] at hrz0
  have hRs : ROW.size = G * 2 := by
    rw [hROW, Array.size_append, Array.size_append, zero_cells, zero_cells, List.size_toArray, hlt]
    omega
  have hRt : ROW.toList.take (k * 2) = eCells (l.take k) := by
    rw [hROW, Array.toList_append, Array.toList_append, List.append_assoc, ← hlt]
    exact List.take_left
  obtain ⟨W1, hW1⟩ : ∃ W1, W1 = w.drew.alloc (.cells ROW 126) := ⟨_, rfl⟩
  rw [← hW1] at hrz0
  have hB1 : Below w.heap.size w W1 := by rw [hW1]; exact ((Below.refl w.heap.size w).drew).alloc (Nat.le_refl _) _
  have hk1 : Blk W1 w.heap.size 126 ROW := by rw [hW1]; exact Blk.new w.drew _ _
  have hrz : ∀ ty, (Builtin.append_ #[63, 3] ty #[.slice (some ⟨g, 0, none⟩) k l.length, .int .i64 ((l.length : Int) + 1 - (k : Int))]).run Tryz.prog w = .ok (.slice (some ⟨w.heap.size, 0, none⟩) (l.length + 1) G) W1 := by
    intro ty
    rw [show (l.length : Int) + 1 - (k : Int) = ((l.length + 1 - k : Nat) : Int) by omega]
    exact hrz0 ty
  -- the new entry
  have hcpA := fun ty => run_copy_rowK (P := Tryz.prog) W1 63 63 ty 126 w.heap.size (k * 2) (l.length + 1 - k) (G - k) ⟨vb, 0, none⟩ 1 1 ROW _ [.string (bA e.1), .int .i64 e.2] 2 Tryz.underlying63 size_ent hk1
    (by show 2 = Nat.min 1 (l.length + 1 - k) * 2; rw [show Nat.min 1 (l.length + 1 - k) = 1 from Nat.min_eq_left (by omega)])
    (by
      intro j u hj
      rw [add_lit]
      match j, hj with
      | 0, hj => simp at hj; subst hj; exact bc hB1 h0
      | 1, hj => simp at hj; subst hj; exact bc hB1 h1)
    (by rw [hRs]; show k * 2 + 2 ≤ _; omega) (ent_one e)
  obtain ⟨R2, hR2⟩ : ∃ R2 : List Value, R2 = ROW.toList.take (k * 2) ++ [.string (bA e.1), .int .i64 e.2] ++ ROW.toList.drop (k * 2 + [Value.string (bA e.1), .int .i64 e.2].length) := ⟨_, rfl⟩
  rw [← hR2, show Nat.min 1 (l.length + 1 - k) = 1 from Nat.min_eq_left (by omega)] at hcpA
  have hR2l : R2.length = G * 2 := by
    rw [hR2, take_at, Array.length_toList, hRs]
    show min (k * 2) (G * 2) + 2 + (G * 2 - (k * 2 + 2)) = G * 2
    omega
  have hR2t : R2.take (k * 2 + 2) = eCells (l.take k ++ [e]) := by
    rw [hR2, hRt, eCells_app]
    refine List.take_left' ?_
    rw [List.length_append, hlt]
    rfl
  obtain ⟨W2, hW2⟩ : ∃ W2, W2 = W1.setRow w.heap.size R2.toArray := ⟨_, rfl⟩
  rw [← hW2] at hcpA
  have hB2 : Below w.heap.size w W2 := by rw [hW2]; exact below_setRow hB1 (Nat.le_refl _) _
  have hk2 : Blk W2 w.heap.size 126 R2.toArray := by rw [hW2]; exact blk_setRow hk1
  -- what stood behind it
  have hcpB := fun ty => run_copy_rowK (P := Tryz.prog) W2.drew 63 63 ty 126 w.heap.size ((k + 1) * 2) (l.length - k) (G - (k + 1)) ⟨g, k * 2, none⟩ (l.length - k) (l.length - k) R2.toArray _ (eCells (l.drop k)) 2 Tryz.underlying63 size_ent hk2
    (by rw [hld]; exact congrArg (· * 2) (Nat.min_self _).symm)
    (by
      intro j u hj
      rw [Addr.add_lit]
      refine bc hB2.drew (hcell (k * 2 + j) u ?_)
      rw [← eCells_drop, List.getElem?_drop] at hj
      exact hj)
    (by rw [List.size_toArray, hR2l, hld]; omega) (eCells_one _)
  obtain ⟨R3, hR3⟩ : ∃ R3 : List Value, R3 = R2.toArray.toList.take ((k + 1) * 2) ++ eCells (l.drop k) ++ R2.toArray.toList.drop ((k + 1) * 2 + (eCells (l.drop k)).length) := ⟨_, rfl⟩
  rw [← hR3, show Nat.min (l.length - k) (l.length - k) = l.length - k from Nat.min_self _] at hcpB
  have hR3t : R3.take ((l.length + 1) * 2) = eCells (l.take k ++ e :: l.drop k) := by
    rw [hR3, List.toList_toArray, show (k + 1) * 2 = k * 2 + 2 by omega, hR2t, show l.take k ++ e :: l.drop k = (l.take k ++ [e]) ++ l.drop k by simp, eCells_app (l.take k ++ [e])]
    refine List.take_left' ?_
    rw [← eCells_app, eCells_len]
    simp
    omega
  have HE := Lib.hid (show EntsT (W2.drew.setRow w.heap.size R3.toArray) (.slice (some ⟨w.heap.size, 0, none⟩) (l.length + 1) G) (l.take k ++ e :: l.drop k) from
    ⟨EntsR.of_blk (t := 126) G (by simp; omega) (blk_setRow hk2) (by rw [List.toList_toArray]; exact hR3t), fun ad n' c' hv => by injection hv with hA; injection hA with hA; subst hA; exact ⟨_, blk_setRow hk2⟩⟩)
  have HB := Lib.hid (show Below w.heap.size w (W2.drew.setRow w.heap.size R3.toArray) from below_setRow hB2.drew (Nat.le_refl _) _)
  generalize W2.drew.setRow w.heap.size R3.toArray = W3 at hcpB HE HB
  clear hrz0 hROW hRs hRt hR2 hR2l hR2t hR3 hR3t hk1 hk2 hold hcell hlt hld hW1 hW2 hB1 hB2 hG hk h0 h1 hi0 hz0 hzs hzb
  have n1 : ((k : Int) == (l.length : Int)) = false := by rw [beq_eq_false_iff_ne]; omega
  have n2 : (l.length : Int) < (l.length : Int) + 1 := by omega
  have n3 : (k : Int) ≤ (l.length : Int) := by omega
  have n4 : (k : Int) ≤ (l.length : Int) + 1 := by omega
  have n5 : (k : Int) + 1 ≤ (l.length : Int) + 1 := by omega
  have mixed : Tryz.prog.follows Departure.mixedOrders = true := by kernel_rfl
  have hw1 : IntKind.i64.wrap ((k : Int) + 1) = (k : Int) + 1 := by rw [IntKind.wrap_i64]; omega
  have hb1 : (0 : Int) ≤ (k : Int) + 1 := by omega
  have htn : ((k : Int) + 1).toNat = k + 1 := by omega
  have m1 : ¬ (G = k) := by omega
  have m2 : ¬ (G = k + 1) := by omega
  have m3 : ¬ (l.length = k) := by omega
  go_enter Tryz.func119, Tryz.ntmps119
  go_wp2_with (first
    | (at_builtin; refine Lib.wpList_append_run _ rfl _ _ _ _ rfl _ _ rfl rfl _ _ (hrz _) ?_)
    | (at_builtin; refine wpList_copy_runI _ rfl _ _ 63 63 rfl _ _ rfl rfl (hcpA _) ?_))
  go_region_law_o (refine step_copy_runI rfl _ _ 63 63 rfl (.slice (some ⟨w.heap.size, (k + 1) * 2, none⟩) (l.length - k) (G - (k + 1))) (.slice (some ⟨g, k * 2, none⟩) (l.length - k) (l.length - k)) (by simp [Act.eval, Act.put]) (by simp [Act.eval, Act.put]) (hcpB _) ?_)
  go_wp2
  go_ret
  exact ⟨_, rfl, HE.out, HB.out⟩
end Go.Proofs.YtnkjaocmfhjnoaaGreat
