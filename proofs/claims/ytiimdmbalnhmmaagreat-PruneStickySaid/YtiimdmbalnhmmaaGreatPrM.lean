/-
  Entries that are taken away, and put in, in any table; trees that stay trees; plain mathematics. The conditions are said at each.
-/
import Derived.Test.YtiimdmbalnhmmaaGreatPlN
import Derived.Test.YtiimdmbalnhmmaaGreatBS
namespace Go.Proofs.YtiimdmbalnhmmaaGreat
open Go Go.RowKit
set_option maxRecDepth 100000

/-! Lists of entries. -/
theorem cnt_del {n : Nm} {j : Int} : ∀ {l : List En}, n ∈ nmE l → cntE (del l n) j + (if fnd l n = j then 1 else 0) = cntE l j
  | [], h => by cases h
  | e :: l, h => by
    rw [del, fnd]
    split
    · unfold cntE
      rw [List.countP_cons]
      simp only [decide_eq_true_eq]
    · rename_i q
      have h2 : n ∈ nmE l := by
        rcases List.mem_cons.1 h with h | h
        · exact absurd h.symm q
        · exact h
      have ih := cnt_del (j := j) h2
      unfold cntE at ih ⊢
      rw [List.countP_cons, List.countP_cons]
      omega
theorem fnd_del_ne {n x : Nm} (hne : n ≠ x) : ∀ l : List En, fnd (del l x) n = fnd l n
  | [] => rfl
  | e :: l => by
    rw [del]
    split
    · rename_i q
      rw [fnd, if_neg (fun z => hne (by rw [← z, q]))]
    · rw [fnd, fnd, fnd_del_ne hne l]
theorem fnd_del {l : List En} {n : Nm} (h : rise (nmE l)) : fnd (del l n) n = 0 := fnd_none (del_gone h)
theorem fnd_mem {l : List En} {n : Nm} (h : fnd l n ≠ 0) : n ∈ nmE l := Classical.byContradiction (fun q => h (fnd_none q))
/-- What is taken away is put in again. -/
theorem ins_del {n : Nm} : ∀ {l : List En}, rise (nmE l) → n ∈ nmE l → ins (n, fnd l n) (del l n) = l
  | [], _, h => by cases h
  | e :: l, hr, h => by
    obtain ⟨h1, h2⟩ := List.pairwise_cons.1 hr
    rw [fnd, del]
    by_cases q : e.1 = n
    · rw [if_pos q, if_pos q]
      have e1 : (n, e.2) = e := by rw [← q]
      rw [e1]
      cases l with
      | nil => rfl
      | cons f l =>
        rw [ins, if_pos (h1 f.1 (List.mem_cons_self ..))]
    · rw [if_neg q, if_neg q]
      have h3 : n ∈ nmE l := by
        rcases List.mem_cons.1 h with h | h
        · exact absurd h.symm q
        · exact h
      rw [ins, if_neg (by rw [lss_asymm (h1 n h3)]; decide), ins_del h2 h3]
theorem del_mem {l : List En} {n : Nm} {e : En} (h : e ∈ del l n) : e ∈ l := (del_sub l n).subset h
theorem ok_ris {t : List Nd} (h : okT t) (i : Int) : rise (nmE (tget t i).ents) := by
  rcases ok_tget h i with q | q
  · rw [q]; exact List.Pairwise.nil
  · rcases q.2 with q | q | q
    · rw [q.2.1]; exact List.Pairwise.nil
    · exact q.2.2.2.2.1
    · rw [q.2.2.1]; exact List.Pairwise.nil
theorem ok_eight {t : List Nd} (h : okT t) (i : Int) : (tget t i).ents.length ≤ 8 := by
  rcases ok_tget h i with q | q
  · rw [q]; exact Nat.zero_le _
  · rcases q.2 with q | q | q
    · rw [q.2.1]; exact Nat.zero_le _
    · exact q.2.2.2.2.2
    · rw [q.2.2.1]; exact Nat.zero_le _
theorem ok_pos {t : List Nd} (h : okT t) {i : Int} {e : En} (he : e ∈ (tget t i).ents) : 1 ≤ e.2 := by
  rcases ok_tget h i with q | q
  · rw [q] at he; cases he
  · rcases q.2 with q | q | q
    · rw [q.2.1] at he; cases he
    · exact (q.2.2.2.1 e he).2
    · rw [q.2.2.1] at he; cases he
theorem ok_fnd {t : List Nd} (h : okT t) {i : Int} {n : Nm} (hz : fnd (tget t i).ents n ≠ 0) : 1 ≤ fnd (tget t i).ents n := by
  obtain ⟨e, he, -, h2⟩ := fnd_some (fnd_mem hz)
  rw [h2]
  exact ok_pos h he
theorem ok_leaf {t : List Nd} (h : okT t) {i : Int} (hk : (tget t i).kind ≠ 2) : (tget t i).ents = [] := by
  rcases ok_tget h i with q | q
  · rw [q]; rfl
  · exact right_other q hk
/-- Who is told as a parent has an entry. -/
theorem par_dir {t : List Nd} (h : okT t) {j : Int} (hp : parF t j ≠ 0) : (tget t (parF t j)).kind = 2 ∧ cntE (tget t (parF t j)).ents j ≠ 0 := by
  have key : ∀ (t : List Nd) (d : Nat), parT t d j ≠ 0 → ∃ k, ∃ hk : k < t.length, parT t d j = d + k + 1 ∧ cntE (t[k]).ents j ≠ 0 := by
    intro t
    induction t with
    | nil => intro d h; exact absurd rfl h
    | cons n t ih =>
      intro d h
      rw [parT] at h ⊢
      split
      · rename_i q
        rw [if_pos q] at h
        obtain ⟨k, hk, e1, e2⟩ := ih (d + 1) h
        exact ⟨k + 1, by rw [List.length_cons]; omega, by omega, by simpa using e2⟩
      · rename_i q
        exact ⟨0, Nat.succ_pos _, by omega, by simpa using q⟩
  obtain ⟨k, hk, e1, e2⟩ := key t 0 (fun q => hp (by unfold parF; rw [q]; rfl))
  have e3 : parF t j = (k : Int) + 1 := by unfold parF; omega
  rw [e3, tget_at hk]
  refine ⟨Classical.byContradiction (fun q => e2 ?_), e2⟩
  rw [ok_ents h (List.getElem_mem hk) q]
  rfl
theorem par_none {t : List Nd} {j : Int} (h : linkT t j = 0) : parF t j = 0 := by unfold parF; rw [(par_zero t 0).2 h]; rfl

/-! The three changes. -/
/-- An entry is gone. -/
structure Cut (t t1 : List Nd) (d : Int) (n : Nm) (i : Int) : Prop where
  get : ∀ j, tget t1 j = if j = d then { tget t d with ents := del (tget t d).ents n } else tget t j
  link : ∀ j, linkT t1 j + (if i = j then 1 else 0) = linkT t j
  par : ∀ j, j ≠ i → parF t1 j = parF t j
  len : t1.length = t.length
  ok : okT t1
  used : usedT t1 = usedT t
def cutT (t : List Nd) (d : Int) (n : Nm) : List Nd := setT t d (outM (tget t d) n)
theorem cut_is {t : List Nd} (ho : okT t) {d : Int} {n : Nm} {i : Int} (hk : (tget t d).kind = 2) (hn : fnd (tget t d).ents n = i) (hi : i ≠ 0) : Cut t (cutT t d n) d n i := by
  have hm : n ∈ nmE (tget t d).ents := fnd_mem (by rw [hn]; exact hi)
  have he : outE (tget t d) n = 0 := by unfold outE; rw [if_neg (fun q => q hk), if_pos hm]
  have hM : outM (tget t d) n = { tget t d with ents := del (tget t d).ents n } := if_pos he
  have hti := kind_tis hk
  have hin := tis_in hti
  have hr := (right_out (tis_right ho hti) he).1
  have hu := used_put hti hr
  rw [hM] at hr hu
  unfold cutT
  rw [hM]
  refine ⟨fun j => tget_set hin, fun j => ?_, fun j hj => ?_, len_setT .., ok_setT ho _ (.inr hr), hu⟩
  · have h1 := link_set hin { tget t d with ents := del (tget t d).ents n } j
    have h2 := cnt_del (j := j) hm
    rw [hn] at h2
    have h3 : cntE ({ tget t d with ents := del (tget t d).ents n } : Nd).ents j = cntE (del (tget t d).ents n) j := rfl
    rw [h3] at h1
    omega
  · unfold parF
    rw [par_set hin (j := j) (n := { tget t d with ents := del (tget t d).ents n }) ?_]
    have h2 := cnt_del (j := j) hm
    rw [hn, if_neg (fun q => hj q.symm)] at h2
    show cntE (del (tget t d).ents n) j = 0 ↔ _
    rw [← h2]
    exact Iff.rfl
/-- An entry more. -/
structure Add (t t1 : List Nd) (d : Int) (n : Nm) (i : Int) : Prop where
  get : ∀ j, tget t1 j = if j = d then { tget t d with ents := ins (n, i) (tget t d).ents } else tget t j
  link : ∀ j, linkT t1 j = linkT t j + (if i = j then 1 else 0)
  par : ∀ j, j ≠ i → parF t1 j = parF t j
  own : linkT t i = 0 → parF t1 i = d
  len : t1.length = t.length
  ok : okT t1
  used : usedT t1 = usedT t
def addT (t : List Nd) (d : Int) (n : Nm) (i : Int) : List Nd := setT t d (withM (tget t d) n i)
theorem add_is {t : List Nd} (ho : okT t) {d : Int} {n : Nm} {i : Int} (he : withE (tget t d) n i = 0) : Add t (addT t d n i) d n i := by
  have hM := withM_zero he
  have hti := kind_tis (withE_zero.1 he).1
  have hin := tis_in hti
  have hr := (right_with (tis_right ho hti) he).1
  have hu := used_put hti hr
  rw [hM] at hr hu
  unfold addT
  rw [hM]
  have hget : ∀ j, tget (setT t d { tget t d with ents := ins (n, i) (tget t d).ents }) j = if j = d then { tget t d with ents := ins (n, i) (tget t d).ents } else tget t j := fun j => tget_set hin
  refine ⟨hget, fun j => ?_, fun j hj => ?_, fun hl => ?_, len_setT .., ok_setT ho _ (.inr hr), hu⟩
  · obtain ⟨M, hMM⟩ : ∃ M : Nd, ({ tget t d with ents := ins (n, i) (tget t d).ents } : Nd) = M := ⟨_, rfl⟩
    have hME : M.ents = ins (n, i) (tget t d).ents := by rw [← hMM]
    rw [hMM]
    have h1 := link_set hin M j
    have h5 : cntE M.ents j = cntE (tget t d).ents j + (if i = j then 1 else 0) := by rw [hME]; exact cnt_ins (n, i) _ j
    omega
  · unfold parF
    rw [par_set hin (j := j) (n := { tget t d with ents := ins (n, i) (tget t d).ents }) ?_]
    show cntE (ins (n, i) (tget t d).ents) j = 0 ↔ _
    rw [cnt_ins, if_neg (fun q => hj q.symm)]
    exact Iff.rfl
  · have hk : (d - 1).toNat < (setT t d { tget t d with ents := ins (n, i) (tget t d).ents }).length := by rw [len_setT]; omega
    have he1 : d = (((d - 1).toNat : Nat) : Int) + 1 := by omega
    have hp := par_one (j := i) (setT t d { tget t d with ents := ins (n, i) (tget t d).ents }) 0 (d - 1).toNat ⟨hk, by
      rw [← tget_at hk, ← he1, hget, if_pos rfl]
      show cntE (ins (n, i) (tget t d).ents) i ≠ 0
      rw [cnt_ins, if_pos rfl]
      omega⟩ (fun m hm hmk => by
      rw [← tget_at hm, hget, if_neg (by omega)]
      exact link_zero.1 hl _)
    unfold parF
    rw [hp]
    omega
/-- A node without entries that is gone. -/
structure Drq (t t1 : List Nd) (i : Int) : Prop where
  get : ∀ j, tget t1 j = if j = i then Nd.zero else tget t j
  link : ∀ j, linkT t1 j = linkT t j
  par : ∀ j, parF t1 j = parF t j
  len : t1.length = t.length
  ok : okT t1
  used : usedT t1 + 1 = usedT t
theorem drp_is {t : List Nd} (ho : okT t) {i : Int} (hi : tis t i = true) (he : (tget t i).ents = []) : Drq t (setT t i Nd.zero) i := by
  have hin := tis_in hi
  refine ⟨fun j => tget_set hin, fun j => ?_, fun j => ?_, len_setT .., ok_setT ho _ (.inl rfl), used_drop hi⟩
  · have h1 := link_set hin Nd.zero j
    rw [he] at h1
    exact h1
  · unfold parF
    rw [par_set hin (j := j) (n := Nd.zero) (by rw [he]; exact Iff.rfl)]

/-! Trees. -/
structure Tre (t : List Nd) : Prop where
  ok : okT t
  le : t.length ≤ 24
  one : (tget t 1).kind = 2
  top : linkT t 1 = 0
  here : ∀ (i : Int) (e : En), e ∈ (tget t i).ents → tis t e.2 = true
  file : ∀ i : Int, tis t i = true → i ≠ 1 → 1 ≤ linkT t i
  dir : ∀ i : Int, (tget t i).kind = 2 → i ≠ 1 → linkT t i = 1
  root : ∀ i : Int, (tget t i).kind = 2 → ∃ m, itr (parF t) m i = 1
theorem tre_right {t : List Nd} (h : Tre t) : allT t [] := by
  refine ⟨h.one, h.top, fun k hk => ?_⟩
  unfold nodeT
  split
  · rename_i hk2
    rw [Bool.and_eq_true]
    refine ⟨List.all_eq_true.2 (fun e he => h.here _ e he), ?_⟩
    by_cases q : (k : Int) + 1 = 1
    · rw [decide_eq_true q]; rfl
    · obtain ⟨m, hm⟩ := h.root _ hk2
      have hti := tis_in (kind_tis hk2)
      obtain ⟨a, h1, h2⟩ := root_bound (L := t.length) (parF_zero h.ok) (parF_le t) ⟨by omega, by omega⟩ hm
      rw [decide_eq_true (h.dir _ hk2 q), root_iff.2 ⟨a, by have := h.le; omega, h2⟩]
      simp
  · rename_i hk2
    split
    · rename_i hk3
      have hti : tis t ((k : Int) + 1) = true := decide_eq_true (by rcases hk3 with q | q <;> rw [q] <;> decide)
      have hne : (k : Int) + 1 ≠ 1 := fun q => by rw [q] at hk2; exact hk2 h.one
      rw [decide_eq_true (show 0 < linkT t ((k : Int) + 1) from h.file _ hti hne)]
      rfl
    · rfl
theorem tre_trx {t : List Nd} (h : Trx t) : Tre t := by
  have hd : ∀ (n : Nat) (i : Int), i ≤ n → (tget t i).kind = 2 → ∃ m, itr (parF t) m i = 1 := by
    intro n
    induction n with
    | zero => intro i h1 h2; have := tis_in (kind_tis h2); omega
    | succ n ih =>
      intro i h1 h2
      rcases dir_par h h2 with ⟨q, -⟩ | ⟨q1, q2, q3⟩
      · exact ⟨0, q⟩
      · obtain ⟨m, hm⟩ := ih (parF t i) (by omega) q3
        exact ⟨m + 1, hm⟩
  refine ⟨h.ok, h.le, h.one, h.top, fun i e he => (h.num _).2 (h.here i e he), fun i hi hne => ?_, fun i hk hne => ?_, fun i hk => ?_⟩
  · have hn := (h.num i).1 hi
    exact (h.link i (by omega) hn.2).1
  · have hn := (h.num i).1 (kind_tis hk)
    exact ((h.link i (by omega) hn.2).2 hk).1
  · have hn := tis_in (kind_tis hk)
    exact hd i.toNat i (by omega) hk
/-- Ways up that come through none of some leaves are as they were. -/
theorem root_keep {t t' : List Nd} (ho : okT t) {A : Int → Prop} (hp : ∀ j, ¬ A j → parF t' j = parF t j) (he : ∀ a, A a → (tget t a).ents = []) : ∀ (m : Nat) (j : Int), ¬ A j → itr (parF t) m j = 1 → ∃ m', itr (parF t') m' j = 1
  | 0, j, _, h => ⟨0, h⟩
  | m + 1, j, hj, h => by
    by_cases hz : parF t j = 0
    · have h2 : itr (parF t) m (parF t j) = 1 := h
      rw [hz, itr_zero (parF_zero ho)] at h2
      exact absurd h2 (by decide)
    · have hA : ¬ A (parF t j) := fun q => by
        have h3 := (par_dir ho hz).2
        rw [he _ q] at h3
        exact h3 rfl
      obtain ⟨m', h4⟩ := root_keep ho hp he m (parF t j) hA h
      refine ⟨m' + 1, ?_⟩
      show itr (parF t') m' (parF t' j) = 1
      rw [hp j hj]
      exact h4
/-- A way up that never comes to a number. -/
theorem root_off {t t' : List Nd} {A : Int → Prop} (hp : ∀ j, ¬ A j → parF t' j = parF t j) : ∀ (m : Nat) (j : Int), (∀ a, a < m → ¬ A (itr (parF t) a j)) → itr (parF t) m j = 1 → itr (parF t') m j = 1
  | 0, j, _, h => h
  | m + 1, j, hj, h => by
    show itr (parF t') m (parF t' j) = 1
    rw [hp j (hj 0 (Nat.succ_pos _))]
    exact root_off hp m (parF t j) (fun a ha => hj (a + 1) (by omega)) h
/-- Ways up, where one number's parent is another one now. -/
theorem root_move {t t' : List Nd} (ho : okT t) {i k D : Int} (hp : ∀ j, j ≠ i → j ≠ k → parF t' j = parF t j) (hk : (tget t k).ents = []) (hi : parF t' i = D) (hD : ∃ m, itr (parF t') m D = 1) : ∀ (m : Nat) (j : Int), j ≠ k → itr (parF t) m j = 1 → ∃ m', itr (parF t') m' j = 1
  | 0, j, _, h => ⟨0, h⟩
  | m + 1, j, hj, h => by
    by_cases hij : j = i
    · subst hij
      obtain ⟨a, ha⟩ := hD
      refine ⟨a + 1, ?_⟩
      show itr (parF t') a (parF t' j) = 1
      rw [hi]
      exact ha
    by_cases hz : parF t j = 0
    · have h2 : itr (parF t) m (parF t j) = 1 := h
      rw [hz, itr_zero (parF_zero ho)] at h2
      exact absurd h2 (by decide)
    · have hA : parF t j ≠ k := fun q => by
        have h3 := (par_dir ho hz).2
        rw [q, hk] at h3
        exact h3 rfl
      obtain ⟨m', h4⟩ := root_move ho hp hk hi hD m (parF t j) hA h
      refine ⟨m' + 1, ?_⟩
      show itr (parF t') m' (parF t' j) = 1
      rw [hp j hij hj]
      exact h4
end Go.Proofs.YtiimdmbalnhmmaaGreat
