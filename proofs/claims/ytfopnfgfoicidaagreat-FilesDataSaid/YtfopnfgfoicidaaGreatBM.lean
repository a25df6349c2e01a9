/-
  What is told of a tree, and the tree of it, as plain mathematics. No condition.
-/
import Derived.Test.YtfopnfgfoicidaaGreatBS
namespace Go.Proofs.YtfopnfgfoicidaaGreat
open Go Go.RowKit
set_option maxRecDepth 100000

/-- What is told of a node, or of one more entry of one. -/
structure Rw where
  kind : Int
  mode : Int
  uid : Int
  gid : Int
  parent : Int
  name : Nm
  data : List UInt8
  target : Nm
  node : Int
def Rw.nd (r : Rw) : Nd := ⟨r.kind, r.mode, r.uid, r.gid, r.data, [], r.target⟩
/-- The node of an entry: why there is none, and else its number, and the table then. -/
noncomputable def enE (t : List Nd) (r : Rw) : Int := if r.kind = 4 then (if tis t r.node = false then 2 else if (tget t r.node).kind = 2 then 1 else 0) else addE t (toB (rightP r.nd))
noncomputable def enI (t : List Nd) (r : Rw) : Int := if enE t r = 0 then (if r.kind = 4 then r.node else (freeT t 0 : Int)) else 0
noncomputable def enT (t : List Nd) (r : Rw) : List Nd := if enE t r = 0 then (if r.kind = 4 then t else setT t (freeT t 0) r.nd) else t
/-- One that is told, but for the first one: why not, and the table then. -/
noncomputable def blE (t : List Nd) (r : Rw) : Int := if tis t r.parent = false then 2 else if enE t r = 0 then withE (tget t r.parent) r.name (enI t r) else enE t r
noncomputable def blT (t : List Nd) (r : Rw) : List Nd := setT (enT t r) r.parent (withM (tget t r.parent) r.name (enI t r))
/-- The first one. -/
noncomputable def rtE (t : List Nd) (r : Rw) : Int := if r.kind ≠ 2 ∨ r.parent ≠ 0 ∨ r.name ≠ [] then 22 else addE t (toB (rightP r.nd))
def rtT (t : List Nd) (r : Rw) : List Nd := setT t (freeT t 0) r.nd
/-- What comes of building: where it is wrong, and why, or a table. -/
inductive BR where
  | bad (k : Nat) (e : Int)
  | good (t : List Nd)
noncomputable def bld : List Nd → Nat → List Rw → BR
  | t, _, [] => .good t
  | t, k, r :: l => if blE t r = 0 then bld (blT t r) (k + 1) l else .bad k (blE t r)
def newN (m : Int) : List Nd := List.replicate (newL m) Nd.zero
noncomputable def bldA (m : Int) : List Rw → BR
  | [] => .bad 0 22
  | r :: l => if rtE (newN m) r = 0 then bld (rtT (newN m) r) 1 l else .bad 0 (rtE (newN m) r)

theorem addE_zero {t : List Nd} {n : Nd} : addE t (toB (rightP n)) = 0 ↔ rightP n ∧ freeT t 0 ≠ 0 := by
  unfold addE
  by_cases h : rightP n
  · rw [toB_true h, if_neg (by decide)]
    by_cases q : freeT t 0 = 0
    · rw [if_pos q]
      exact ⟨fun h => absurd h (by decide), fun h => absurd q h.2⟩
    · rw [if_neg q]
      exact ⟨fun _ => ⟨h, q⟩, fun _ => rfl⟩
  · rw [toB_false h, if_pos rfl]
    exact ⟨fun h => absurd h (by decide), fun q => absurd q.1 h⟩
theorem rt_zero {t : List Nd} {r : Rw} : rtE t r = 0 ↔ r.kind = 2 ∧ r.parent = 0 ∧ r.name = [] ∧ rightP r.nd ∧ freeT t 0 ≠ 0 := by
  unfold rtE
  by_cases h : r.kind ≠ 2 ∨ r.parent ≠ 0 ∨ r.name ≠ []
  · rw [if_pos h]
    constructor
    · intro q; exact absurd q (by decide)
    · rintro ⟨h1, h2, h3, -⟩
      rcases h with h | h | h
      · exact absurd h1 h
      · exact absurd h2 h
      · exact absurd h3 h
  · rw [if_neg h, addE_zero]
    have h1 : r.kind = 2 := Classical.byContradiction (fun q => h (.inl q))
    have h2 : r.parent = 0 := Classical.byContradiction (fun q => h (.inr (.inl q)))
    have h3 : r.name = [] := Classical.byContradiction (fun q => h (.inr (.inr q)))
    exact ⟨fun q => ⟨h1, h2, h3, q⟩, fun q => q.2.2.2⟩
/-- Whether an entry's node may be had. -/
theorem en_zero {t : List Nd} {r : Rw} : enE t r = 0 ↔ (r.kind = 4 ∧ tis t r.node = true ∧ (tget t r.node).kind ≠ 2) ∨ (r.kind ≠ 4 ∧ rightP r.nd ∧ freeT t 0 ≠ 0) := by
  unfold enE
  by_cases h : r.kind = 4
  · rw [if_pos h]
    cases q : tis t r.node
    · rw [if_pos rfl]
      exact ⟨fun h => absurd h (by decide), fun q => by rcases q with q | q; exact absurd q.2.1 (by decide); exact absurd h q.1⟩
    · rw [if_neg (by decide)]
      by_cases q2 : (tget t r.node).kind = 2
      · rw [if_pos q2]
        exact ⟨fun h => absurd h (by decide), fun q => by rcases q with q | q; exact absurd q2 q.2.2; exact absurd h q.1⟩
      · rw [if_neg q2]
        exact ⟨fun _ => .inl ⟨h, rfl, q2⟩, fun _ => rfl⟩
  · rw [if_neg h, addE_zero]
    exact ⟨fun q => .inr ⟨h, q⟩, fun q => by rcases q with q | q; exact absurd q.1 h; exact q.2⟩
theorem bl_zero {t : List Nd} {r : Rw} : blE t r = 0 ↔ tis t r.parent = true ∧ enE t r = 0 ∧ withE (tget t r.parent) r.name (enI t r) = 0 := by
  unfold blE
  cases q : tis t r.parent
  · rw [if_pos rfl]
    exact ⟨fun h => absurd h (by decide), fun h => absurd h.1 (by decide)⟩
  · rw [if_neg (by decide)]
    by_cases q2 : enE t r = 0
    · rw [if_pos q2]
      exact ⟨fun h => ⟨rfl, q2, h⟩, fun h => h.2.2⟩
    · rw [if_neg q2]
      exact ⟨fun h => absurd h q2, fun h => absurd h.2.1 q2⟩
theorem en_len (t : List Nd) (r : Rw) : (enT t r).length = t.length := by
  unfold enT
  repeat' split
  all_goals first | exact len_setT .. | rfl
theorem bl_len (t : List Nd) (r : Rw) : (blT t r).length = t.length := by
  unfold blT
  rw [len_setT, en_len]
theorem rt_len (t : List Nd) (r : Rw) : (rtT t r).length = t.length := len_setT ..
theorem en_ok {t : List Nd} {r : Rw} (h : okT t) : okT (enT t r) := by
  unfold enT
  split
  · rename_i q
    split
    · exact h
    · rename_i q2
      rcases en_zero.1 q with q3 | q3
      · exact absurd q3.1 q2
      · exact ok_setT h _ (.inr q3.2.1)
  · exact h
/-- The directory is as it was before the node was added. -/
theorem en_get {t : List Nd} {r : Rw} {p : Int} (hp : tis t p = true) : tget (enT t r) p = tget t p := by
  unfold enT
  split
  · rename_i q
    split
    · rfl
    · rename_i q2
      rcases en_zero.1 q with q3 | q3
      · exact absurd q3.1 q2
      · obtain ⟨h1, h2, -⟩ := free_is q3.2.2
        rw [tget_set h1, if_neg]
        rintro rfl
        rw [h2] at hp
        cases hp
  · rfl
theorem bl_ok {t : List Nd} {r : Rw} (h : okT t) (hz : blE t r = 0) : okT (blT t r) := by
  obtain ⟨h1, h2, h3⟩ := bl_zero.1 hz
  exact ok_setT (en_ok h) _ (.inr (right_with (tis_right h h1) h3).1)
theorem rt_ok {t : List Nd} {r : Rw} (h : okT t) (hz : rtE t r = 0) : okT (rtT t r) := ok_setT h _ (.inr (rt_zero.1 hz).2.2.2.1)
theorem en_tis {t : List Nd} {r : Rw} {p : Int} (hp : tis t p = true) : tis (enT t r) p = true := by
  unfold tis
  rw [en_get hp]
  exact hp
end Go.Proofs.YtfopnfgfoicidaaGreat
namespace Go.Proofs.YtfopnfgfoicidaaGreat
open Go Go.RowKit
set_option maxRecDepth 100000

/-- A node that is changed: links, and parents. -/
theorem link_set {t : List Nd} {i : Int} (h : 1 ≤ i ∧ i ≤ t.length) (n : Nd) (j : Int) : linkT (setT t i n) j + cntE (tget t i).ents j = linkT t j + cntE n.ents j := by
  have key : ∀ (t : List Nd) (k : Nat) (hk : k < t.length), linkT (t.set k n) j + cntE (t[k]).ents j = linkT t j + cntE n.ents j := by
    intro t
    induction t with
    | nil => intro k hk; exact absurd hk (Nat.not_lt_zero _)
    | cons m t ih =>
      intro k hk
      cases k with
      | zero =>
        rw [List.set_cons_zero, link_cons, link_cons]
        simp only [List.getElem_cons_zero]
        omega
      | succ k =>
        have := ih k (by rw [List.length_cons] at hk; omega)
        rw [List.set_cons_succ, link_cons, link_cons]
        simp only [List.getElem_cons_succ]
        omega
  have hk : (i - 1).toNat < t.length := by omega
  have := key t (i - 1).toNat hk
  rw [← tget_at hk, show (((i - 1).toNat : Nat) : Int) + 1 = i by omega] at this
  exact this
theorem ent_set {t : List Nd} {i : Int} (h : 1 ≤ i ∧ i ≤ t.length) (n : Nd) : entT (setT t i n) + (tget t i).ents.length = entT t + n.ents.length := by
  have key : ∀ (t : List Nd) (k : Nat) (hk : k < t.length), entT (t.set k n) + (t[k]).ents.length = entT t + n.ents.length := by
    intro t
    induction t with
    | nil => intro k hk; exact absurd hk (Nat.not_lt_zero _)
    | cons m t ih =>
      intro k hk
      cases k with
      | zero =>
        unfold entT
        rw [List.set_cons_zero, List.map_cons, List.sum_cons, List.map_cons, List.sum_cons]
        simp only [List.getElem_cons_zero]
        omega
      | succ k =>
        have := ih k (by rw [List.length_cons] at hk; omega)
        unfold entT at this ⊢
        rw [List.set_cons_succ, List.map_cons, List.sum_cons, List.map_cons, List.sum_cons]
        simp only [List.getElem_cons_succ]
        omega
  have hk : (i - 1).toNat < t.length := by omega
  have := key t (i - 1).toNat hk
  rw [← tget_at hk, show (((i - 1).toNat : Nat) : Int) + 1 = i by omega] at this
  exact this
theorem par_set {t : List Nd} {i : Int} (h : 1 ≤ i ∧ i ≤ t.length) {n : Nd} {j : Int} (hc : cntE n.ents j = 0 ↔ cntE (tget t i).ents j = 0) : parT (setT t i n) 0 j = parT t 0 j := by
  have key : ∀ (t : List Nd) (k d : Nat) (hk : k < t.length), (cntE n.ents j = 0 ↔ cntE (t[k]).ents j = 0) → parT (t.set k n) d j = parT t d j := by
    intro t
    induction t with
    | nil => intro k d hk; exact absurd hk (Nat.not_lt_zero _)
    | cons m t ih =>
      intro k d hk hc
      cases k with
      | zero =>
        simp only [List.getElem_cons_zero] at hc
        rw [List.set_cons_zero, parT, parT]
        by_cases q : cntE n.ents j = 0
        · rw [if_pos q, if_pos (hc.1 q)]
        · rw [if_neg q, if_neg (fun h => q (hc.2 h))]
      | succ k =>
        simp only [List.getElem_cons_succ] at hc
        rw [List.set_cons_succ, parT, parT, ih k (d + 1) (by rw [List.length_cons] at hk; omega) hc]
  have hk : (i - 1).toNat < t.length := by omega
  refine key t (i - 1).toNat 0 hk ?_
  rw [← tget_at hk, show (((i - 1).toNat : Nat) : Int) + 1 = i by omega]
  exact hc
/-- The parent of what one node alone has. -/
theorem par_one {j : Int} : ∀ (t : List Nd) (d k : Nat), (∃ h : k < t.length, cntE (t[k]).ents j ≠ 0) → (∀ m (h : m < t.length), m ≠ k → cntE (t[m]).ents j = 0) → parT t d j = d + k + 1
  | [], _, k, ⟨h, _⟩, _ => absurd h (Nat.not_lt_zero _)
  | n :: t, d, 0, ⟨_, h⟩, _ => by
    simp only [List.getElem_cons_zero] at h
    rw [parT, if_neg h]
  | n :: t, d, k + 1, ⟨h1, h2⟩, h3 => by
    have h0 := h3 0 (Nat.succ_pos _) (by omega)
    simp only [List.getElem_cons_zero] at h0
    simp only [List.getElem_cons_succ] at h2
    rw [parT, if_pos h0, par_one t (d + 1) k ⟨by rw [List.length_cons] at h1; omega, h2⟩ (fun m hm hk => by
      have := h3 (m + 1) (by rw [List.length_cons]; omega) (by omega)
      simpa using this)]
    omega
theorem link_zero {t : List Nd} {j : Int} : linkT t j = 0 ↔ ∀ i : Int, cntE (tget t i).ents j = 0 := by
  constructor
  · intro h i
    by_cases q : 1 ≤ i ∧ i ≤ t.length
    · have := link_set q Nd.zero j
      rw [h, cnt_zero] at this
      omega
    · rw [tget_out q]; exact cnt_zero j
  · intro h
    unfold linkT
    have : ∀ n ∈ t, cntE n.ents j = 0 := by
      intro n hn
      obtain ⟨k, hk, rfl⟩ := List.getElem_of_mem hn
      rw [← tget_at hk]
      exact h _
    induction t with
    | nil => rfl
    | cons n t ih =>
      rw [List.map_cons, List.sum_cons, this n (List.mem_cons_self ..), ih (fun i => ?_) (fun m hm => this m (List.mem_cons_of_mem _ hm))]
      by_cases q : 1 ≤ i ∧ i ≤ t.length
      · have e : i = (((i - 1).toNat : Nat) : Int) + 1 := by omega
        rw [e, tget_at (by omega)]
        exact this _ (List.mem_cons_of_mem _ (List.getElem_mem _))
      · rw [tget_out q]; exact cnt_zero j
theorem cnt_ins (x : En) (l : List En) (j : Int) : cntE (ins x l) j = cntE l j + if x.2 = j then 1 else 0 := by
  unfold cntE
  induction l with
  | nil =>
    rw [ins, List.countP_cons]
    simp only [decide_eq_true_eq]
  | cons e l ih =>
    rw [ins]
    split
    · rw [List.countP_cons]
      simp only [decide_eq_true_eq]
    · rw [List.countP_cons, List.countP_cons, ih]
      omega
/-- The tree so far: nodes are numbered one behind the other. -/
structure Trx (t : List Nd) : Prop where
  ok : okT t
  le : t.length ≤ 24
  num : ∀ i : Int, tis t i = true ↔ 1 ≤ i ∧ i ≤ usedT t
  one : (tget t 1).kind = 2
  here : ∀ (i : Int) (e : En), e ∈ (tget t i).ents → 1 ≤ e.2 ∧ e.2 ≤ usedT t
  top : linkT t 1 = 0
  link : ∀ i : Int, 2 ≤ i → i ≤ usedT t → 1 ≤ linkT t i ∧ ((tget t i).kind = 2 → linkT t i = 1 ∧ (parT t 0 i : Int) < i)
theorem free_at {t : List Nd} (h : ∀ i : Int, tis t i = true ↔ 1 ≤ i ∧ i ≤ usedT t) (hf : freeT t 0 ≠ 0) : freeT t 0 = usedT t + 1 := by
  obtain ⟨h1, h2, h3⟩ := free_is hf
  have h4 : ¬ (freeT t 0 : Int) ≤ usedT t := fun q => by
    have := (h (freeT t 0)).2 ⟨h1.1, q⟩
    rw [h2] at this
    cases this
  have h5 : ¬ (usedT t : Int) + 1 < freeT t 0 := fun q => by
    have := (h ((usedT t : Int) + 1)).1 (h3 _ (by omega) q)
    omega
  omega
theorem new_free (m : Int) : freeT (newN m) 0 = 1 := by
  have := newL_bd m
  unfold newN
  obtain ⟨k, hk⟩ : ∃ k, newL m = k + 1 := ⟨newL m - 1, by omega⟩
  rw [hk, List.replicate_succ, freeT, if_pos (show Nd.zero.kind = 0 from rfl)]
theorem new_len (m : Int) : (newN m).length = newL m := List.length_replicate ..
theorem link_new (m : Int) (i : Int) : linkT (newN m) i = 0 := link_zero.2 (fun j => by unfold newN; rw [tget_new]; exact cnt_zero i)
theorem ent_new (m : Int) : entT (newN m) = 0 := by
  unfold newN entT
  generalize newL m = k
  induction k with
  | zero => rfl
  | succ k ih => rw [List.replicate_succ, List.map_cons, List.sum_cons, ih]; rfl
theorem tre_root {m : Int} {r : Rw} (h : rtE (newN m) r = 0) : Trx (rtT (newN m) r) ∧ usedT (rtT (newN m) r) = 1 ∧ entT (rtT (newN m) r) = 0 := by
  obtain ⟨h1, -, -, h2, h3⟩ := rt_zero.1 h
  have hb := newL_bd m
  have hl := new_len m
  have hu : usedT (rtT (newN m) r) = 1 := by
    unfold rtT
    rw [used_add h3 h2]
    unfold newN
    rw [used_new]
  have hin : 1 ≤ (1 : Int) ∧ (1 : Int) ≤ (newN m).length := by omega
  have hT : rtT (newN m) r = setT (newN m) 1 r.nd := by unfold rtT; rw [new_free]; rfl
  have hg : ∀ i, tget (rtT (newN m) r) i = if i = 1 then r.nd else Nd.zero := fun i => by
    rw [hT, tget_set hin]
    unfold newN
    rw [tget_new]
  have hnn : r.nd.ents = [] := rfl
  have hz : ∀ i, (tget (rtT (newN m) r) i).ents = [] := fun i => by
    rw [hg]
    split
    · rfl
    · rfl
  have hlk : ∀ i, linkT (rtT (newN m) r) i = 0 := fun i => link_zero.2 (fun j => by rw [hz]; rfl)
  refine ⟨⟨rt_ok (ok_new _) h, by rw [rt_len]; omega, fun i => ?_, by rw [hg, if_pos rfl]; exact h1, fun i e he => ?_, hlk 1, fun i h4 h5 => ?_⟩, hu, ?_⟩
  · unfold tis
    rw [hu, hg]
    by_cases q : i = 1
    · rw [if_pos q]
      exact ⟨fun _ => by omega, fun _ => decide_eq_true (by show r.kind ≠ 0; omega)⟩
    · rw [if_neg q]
      exact ⟨fun h => absurd rfl (of_decide_eq_true h), fun h => by omega⟩
  · rw [hz] at he; cases he
  · rw [hu] at h5; omega
  · have := ent_set hin r.nd
    rw [hT]
    have h6 : (tget (newN m) 1).ents.length = 0 := by unfold newN; rw [tget_new]; rfl
    rw [h6, ent_new, hnn] at this
    exact this
theorem withM_zero {n : Nd} {name : Nm} {id : Int} (h : withE n name id = 0) : withM n name id = { n with ents := ins (name, id) n.ents } := by
  unfold withM
  rw [if_pos h]
/-- One more node, without an entry. -/
theorem tre_node {t : List Nd} {n : Nd} (h : Trx t) (hn : rightP n) (hne : n.ents = []) (hf : freeT t 0 ≠ 0) :
    usedT (setT t (freeT t 0) n) = usedT t + 1 ∧ freeT t 0 = usedT t + 1 ∧ (∀ j, linkT (setT t (freeT t 0) n) j = linkT t j) ∧ (∀ j, parT (setT t (freeT t 0) n) 0 j = parT t 0 j) ∧ entT (setT t (freeT t 0) n) = entT t ∧ linkT t (freeT t 0) = 0 := by
  obtain ⟨h1, h2, h3⟩ := free_is hf
  have hz : tget t (freeT t 0) = Nd.zero := tis_not h.ok h2
  have hF := free_at h.num hf
  refine ⟨used_add hf hn, hF, fun j => ?_, fun j => ?_, ?_, link_zero.2 (fun i => ?_)⟩
  · have := link_set h1 n j
    rw [hz, hne] at this
    exact Nat.add_right_cancel this
  · refine par_set h1 ?_
    rw [hz, hne]
    exact Iff.rfl
  · have := ent_set h1 n
    rw [hz, hne] at this
    exact Nat.add_right_cancel this
  · refine Classical.byContradiction (fun q => ?_)
    obtain ⟨e, he, he2⟩ := cnt_pos.1 q
    have := h.here i e he
    omega
/-- One more entry, of a file that is there, or of a node that none has. -/
theorem tre_step {t : List Nd} {r : Rw} (h : Trx t) (hz : blE t r = 0) : Trx (blT t r) ∧ usedT (blT t r) = usedT t + (if r.kind = 4 then 0 else 1) ∧ entT (blT t r) = entT t + 1 := by
  obtain ⟨hp, he, hw⟩ := bl_zero.1 hz
  have hpi := (h.num r.parent).1 hp
  have hpl := tis_in hp
  have hok := bl_ok h.ok hz
  have hpk : (tget t r.parent).kind = 2 := (withE_zero.1 hw).1
  have hpe := en_get (r := r) hp
  have hpin : 1 ≤ r.parent ∧ r.parent ≤ (enT t r).length := by rw [en_len]; exact hpl
  have hW := withM_zero hw
  obtain ⟨I, hI⟩ : ∃ I, enI t r = I := ⟨_, rfl⟩
  rw [hI] at hW hw
  have hT : blT t r = setT (enT t r) r.parent (withM (tget t r.parent) r.name I) := by unfold blT; rw [hI]
  have hents : (withM (tget t r.parent) r.name I).ents = ins (r.name, I) (tget t r.parent).ents := by rw [hW]
  have hkind : (withM (tget t r.parent) r.name I).kind = (tget t r.parent).kind := by rw [hW]
  have hlk : ∀ j, linkT (blT t r) j = linkT (enT t r) j + if I = j then 1 else 0 := fun j => by
    have := link_set hpin (withM (tget t r.parent) r.name I) j
    rw [hents, cnt_ins, hpe] at this
    rw [hT]
    simp only at this
    omega
  have hen : entT (blT t r) = entT (enT t r) + 1 := by
    have := ent_set hpin (withM (tget t r.parent) r.name I)
    rw [hents, len_ins, hpe] at this
    rw [hT]
    omega
  have hpa : ∀ j, j ≠ I → parT (blT t r) 0 j = parT (enT t r) 0 j := fun j hj => by
    rw [hT]
    refine par_set hpin ?_
    rw [hents, cnt_ins, hpe, if_neg (fun q => hj q.symm)]
    exact Iff.rfl
  have hgt : ∀ j, tget (blT t r) j = if j = r.parent then withM (tget t r.parent) r.name I else tget (enT t r) j := fun j => by
    rw [hT]; exact tget_set hpin
  have hkd : ∀ j, (tget (blT t r) j).kind = (tget (enT t r) j).kind := fun j => by
    rw [hgt]
    split
    · rename_i q
      rw [hkind, q, hpe]
    · rfl
  have htis : ∀ j, tis (blT t r) j = tis (enT t r) j := fun j => by unfold tis; rw [hkd]
  have hus : usedT (blT t r) = usedT (enT t r) := by
    have := used_setT hpin (withM (tget t r.parent) r.name I)
    rw [if_pos (en_tis hp), if_pos (by rw [hkind, hpk]; decide)] at this
    rw [hT]
    omega
  rcases en_zero.1 he with ⟨h4, h5, h6⟩ | ⟨h4, h5, h6⟩
  · have hI2 : r.node = I := by
      rw [← hI]; unfold enI; rw [if_pos he, if_pos h4]
    have hE : enT t r = t := by unfold enT; rw [if_pos he, if_pos h4]
    rw [hE] at hlk hen hpa hgt hkd htis hus
    have hIn := (h.num r.node).1 h5
    rw [hI2] at h5 h6 hIn
    refine ⟨⟨hok, by rw [bl_len]; exact h.le, fun i => ?_, by rw [hkd]; exact h.one, fun i e he => ?_, ?_, fun i q1 q2 => ?_⟩, by rw [hus, if_pos h4, Nat.add_zero], hen⟩
    · rw [htis, hus]; exact h.num i
    · rw [hus]
      rw [hgt] at he
      split at he
      · rw [hents] at he
        rcases (mem_ins _ _ _).1 he with rfl | he
        · exact hIn
        · exact h.here _ e he
      · exact h.here _ e he
    · have h1 : I ≠ 1 := by rintro rfl; exact h6 h.one
      rw [hlk, if_neg h1, h.top]
    · rw [hus] at q2
      obtain ⟨a1, a2⟩ := h.link i q1 q2
      refine ⟨by rw [hlk]; omega, fun hk => ?_⟩
      rw [hkd] at hk
      have hne : i ≠ I := by rintro rfl; exact h6 hk
      rw [hlk, if_neg (fun q => hne q.symm), hpa i hne]
      exact a2 hk
  · have hI2 : (freeT t 0 : Int) = I := by
      rw [← hI]; unfold enI; rw [if_pos he, if_neg h4]
    have hE : enT t r = setT t (freeT t 0) r.nd := by unfold enT; rw [if_pos he, if_neg h4]
    obtain ⟨b1, b2, b3, b4, b5, b6⟩ := tre_node h h5 rfl h6
    obtain ⟨c1, c2, -⟩ := free_is h6
    rw [← hE] at b1 b3 b4 b5
    have hIu : I = (usedT t : Int) + 1 := by omega
    rw [hI2] at b6 c1 c2
    have hge : ∀ j, tget (enT t r) j = if j = I then r.nd else tget t j := fun j => by rw [hE, hI2]; exact tget_set c1
    have hpI : r.parent ≠ I := by omega
    have hnz : r.nd.kind ≠ 0 := right_kind h5
    refine ⟨⟨hok, by rw [bl_len]; exact h.le, fun i => ?_, ?_, fun i e he => ?_, ?_, fun i q1 q2 => ?_⟩, by rw [hus, b1, if_neg h4], by rw [hen, b5]⟩
    · rw [htis, hus, b1]
      unfold tis
      rw [hge]
      by_cases q : i = I
      · rw [if_pos q]
        exact ⟨fun _ => by omega, fun _ => decide_eq_true hnz⟩
      · rw [if_neg q]
        have := h.num i
        unfold tis at this
        rw [this]
        constructor
        · intro q; omega
        · intro q; omega
    · rw [hkd, hge, if_neg (by omega)]
      exact h.one
    · rw [hus, b1]
      rw [hgt] at he
      split at he
      · rw [hents] at he
        rcases (mem_ins _ _ _).1 he with rfl | he
        · exact ⟨by show 1 ≤ I; omega, by show I ≤ _; omega⟩
        · have := h.here _ e he
          exact ⟨this.1, by omega⟩
      · rw [hge] at he
        split at he
        · cases he
        · have := h.here _ e he
          exact ⟨this.1, by omega⟩
    · rw [hlk, b3, h.top, if_neg (by omega)]
    · rw [hus, b1] at q2
      by_cases q : i = I
      · rw [hlk, b3, q, b6, if_pos rfl]
        refine ⟨by omega, fun _ => ⟨by omega, ?_⟩⟩
        have hk : (r.parent - 1).toNat < (blT t r).length := by rw [bl_len]; omega
        have he1 : r.parent = (((r.parent - 1).toNat : Nat) : Int) + 1 := by omega
        have := par_one (j := I) (blT t r) 0 (r.parent - 1).toNat ⟨hk, by
          rw [← tget_at hk, ← he1, hgt, if_pos rfl, hents, cnt_ins, if_pos rfl]
          omega⟩ (fun m hm hmk => by
          rw [← tget_at hm, hgt, if_neg (by omega), hge]
          split
          · rfl
          · exact link_zero.1 b6 _)
        rw [this]
        omega
      · obtain ⟨a1, a2⟩ := h.link i q1 (by omega)
        refine ⟨by rw [hlk, b3]; omega, fun hk => ?_⟩
        rw [hkd, hge, if_neg q] at hk
        rw [hlk, b3, if_neg (fun p => q p.symm), hpa i q, b4]
        exact a2 hk
/-- All that comes of building. -/
theorem tre_bld : ∀ (l : List Rw) (t : List Nd) (k : Nat) (T : List Nd), Trx t → bld t k l = .good T → Trx T ∧ usedT T = usedT t + l.countP (fun r => decide (r.kind ≠ 4)) ∧ entT T = entT t + l.length ∧ T.length = t.length
  | [], t, k, T, h, hb => by
    rw [bld] at hb
    injection hb with hb
    subst hb
    exact ⟨h, rfl, rfl, rfl⟩
  | r :: l, t, k, T, h, hb => by
    rw [bld] at hb
    split at hb
    · rename_i q
      obtain ⟨h1, h2, h3⟩ := tre_step h q
      obtain ⟨a1, a2, a3, a4⟩ := tre_bld l _ _ T h1 hb
      refine ⟨a1, ?_, by rw [a3, h3, List.length_cons]; omega, by rw [a4, bl_len]⟩
      rw [a2, h2, List.countP_cons]
      by_cases q4 : r.kind = 4
      · rw [if_pos q4, if_neg (by simp [q4])]; omega
      · rw [if_neg q4, if_pos (by simp [q4])]; omega
    · cases hb
theorem tre_all {m : Int} {l : List Rw} {T : List Nd} (hb : bldA m l = .good T) : Trx T ∧ usedT T = l.countP (fun r => decide (r.kind ≠ 4)) ∧ entT T + 1 = l.length ∧ T.length = newL m := by
  cases l with
  | nil => cases hb
  | cons r l =>
    rw [bldA] at hb
    split at hb
    · rename_i q
      obtain ⟨h1, h2, h3⟩ := tre_root q
      obtain ⟨a1, a2, a3, a4⟩ := tre_bld l _ _ T h1 hb
      have hk := (rt_zero.1 q).1
      refine ⟨a1, ?_, by rw [a3, h3, List.length_cons]; omega, by rw [a4, rt_len, new_len]⟩
      rw [a2, h2, List.countP_cons, if_pos (by rw [hk]; decide)]
      omega
    · cases hb
theorem tre_all_right {t : List Nd} (h : Trx t) : allT t [] := by
  have hpar : ∀ i : Int, 2 ≤ i → i ≤ usedT t → 1 ≤ (parT t 0 i : Int) ∧ (tget t (parT t 0 i)).kind = 2 := fun i h1 h2 => by
    have h3 := (h.link i h1 h2).1
    have h4 : parT t 0 i ≠ 0 := fun q => by rw [(par_zero t 0).1 q] at h3; omega
    have key : ∀ (t : List Nd) (d : Nat), parT t d i ≠ 0 → ∃ k, ∃ hk : k < t.length, parT t d i = d + k + 1 ∧ cntE (t[k]).ents i ≠ 0 := by
      intro t
      induction t with
      | nil => intro d h; exact absurd rfl h
      | cons n t ih =>
        intro d h
        rw [parT] at h ⊢
        split
        · rename_i q
          rw [if_pos q] at h
          obtain ⟨k, hk, e1, e2⟩ := ih (d + 1) h
          exact ⟨k + 1, by rw [List.length_cons]; omega, by omega, by simpa using e2⟩
        · rename_i q
          exact ⟨0, Nat.succ_pos _, by omega, by simpa using q⟩
    obtain ⟨k, hk, e1, e2⟩ := key t 0 h4
    refine ⟨by omega, ?_⟩
    rw [e1, show ((0 + k + 1 : Nat) : Int) = (k : Int) + 1 by omega, tget_at hk]
    refine Classical.byContradiction (fun q => e2 ?_)
    rw [ok_ents h.ok (List.getElem_mem hk) q]
    rfl
  have hroot : ∀ (n : Nat) (i : Int), i ≤ n → 1 ≤ i → i ≤ usedT t → (tget t i).kind = 2 → ∃ m : Nat, (m : Int) < i ∧ itr (parF t) m i = 1 := by
    intro n
    induction n with
    | zero => intro i h1 h2; omega
    | succ n ih =>
      intro i h1 h2 h3 h4
      by_cases q : i = 1
      · exact ⟨0, by omega, q⟩
      · obtain ⟨p1, p2⟩ := hpar i (by omega) h3
        have h5 := ((h.link i (by omega) h3).2 h4).2
        obtain ⟨m, hm1, hm2⟩ := ih (parT t 0 i) (by omega) p1 (by omega) p2
        exact ⟨m + 1, by omega, hm2⟩
  have hul : usedT t ≤ 24 := Nat.le_trans (used_le t) h.le
  refine ⟨h.one, h.top, fun k hk => ?_⟩
  unfold nodeT
  by_cases hu : tis t ((k : Int) + 1) = true
  · have hn := (h.num _).1 hu
    split
    · rename_i hk2
      rw [Bool.and_eq_true]
      refine ⟨List.all_eq_true.2 (fun e he => (h.num _).2 (h.here _ e he)), ?_⟩
      by_cases q : (k : Int) + 1 = 1
      · rw [decide_eq_true q]; rfl
      · obtain ⟨h1, -⟩ := (h.link _ (by omega) hn.2).2 hk2
        obtain ⟨m, hm1, hm2⟩ := hroot (k + 1) ((k : Int) + 1) (by omega) (by omega) hn.2 hk2
        rw [decide_eq_true h1, root_iff.2 ⟨m, by omega, hm2⟩]
        simp
    · split
      · rename_i hk2 hk3
        by_cases q : (k : Int) + 1 = 1
        · rw [q] at hk2
          exact absurd h.one hk2
        · have := (h.link _ (by omega) hn.2).1
          rw [decide_eq_true (by omega)]
          rfl
      · rfl
  · have hz : tget t ((k : Int) + 1) = Nd.zero := tis_not h.ok (by simpa using hu)
    rw [hz, if_neg (by decide), if_neg (by decide)]
/-- The links of all numbers together. -/
def sumL (t : List Nd) : Nat → Nat
  | 0 => 0
  | k + 1 => sumL t k + linkT t (k + 1)
theorem sum_lnk {t : List Nd} (h : Trx t) : ∀ k, sumL t k = lnkT t k
  | 0 => rfl
  | k + 1 => by
    rw [sumL, lnkT, sum_lnk h k]
    by_cases q : tis t ((k : Int) + 1) = true
    · rw [if_pos q]
    · rw [if_neg q]
      have : linkT t ((k : Int) + 1) = 0 := link_zero.2 (fun i => Classical.byContradiction (fun q2 => by
        obtain ⟨e, he, he2⟩ := cnt_pos.1 q2
        exact q ((h.num _).2 (he2 ▸ h.here i e he))))
      rw [this]
theorem sum_all {t : List Nd} (h : Trx t) : sumL t 24 = entT t := by
  rw [sum_lnk h]
  refine lnk_all h.le (fun n hn e he => ?_)
  obtain ⟨k, hk, rfl⟩ := List.getElem_of_mem hn
  rw [← tget_at hk] at he
  exact (h.num _).2 (h.here _ e he)
/-- The beginning of what builds one builds one. -/
theorem bld_take : ∀ (l : List Rw) (t : List Nd) (k : Nat) (T : List Nd) (j : Nat), bld t k l = .good T → ∃ T', bld t k (l.take j) = .good T'
  | l, t, k, T, 0, _ => ⟨t, rfl⟩
  | [], t, k, T, j + 1, _ => ⟨t, rfl⟩
  | r :: l, t, k, T, j + 1, h => by
    rw [bld] at h
    rw [List.take_succ_cons, bld]
    split at h
    · rename_i q
      rw [if_pos q]
      exact bld_take l _ _ T j h
    · cases h
theorem bldA_take {m : Int} {l : List Rw} {T : List Nd} (h : bldA m l = .good T) (j : Nat) : ∃ T', bldA m (l.take (j + 1)) = .good T' := by
  cases l with
  | nil => cases h
  | cons r l =>
    rw [bldA] at h
    rw [List.take_succ_cons, bldA]
    split at h
    · rename_i q
      rw [if_pos q]
      exact bld_take l _ _ T j h
    · cases h
end Go.Proofs.YtfopnfgfoicidaaGreat
