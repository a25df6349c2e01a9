/-
  What is made at a path, as plain mathematics: why nothing is made, the tree behind it, and what a path without follow leads to then. The conditions are said at each. What is told of a node that was made: its path leads to it, and its mode has nothing of the umask; plain mathematics. The conditions are said at each. Entries that are taken away, and put in, in any table; trees that stay trees; plain mathematics. The conditions are said at each. Package prune's answers, as plain mathematics: what is freed, what is below, entries that are found, taken away, moved. The conditions are said at each. A tree stays one, whatever is taken away or moved; plain mathematics. The conditions are said at each. Trees with open nodes: they stay trees, whatever is changed, made, taken away or moved; plain mathematics. The conditions are said at each. A tree stays one, whatever is moved; what PruneTree asks for; plain mathematics. The conditions are said at each.
-/
import Derived.Test.YtnkjaocmfhjnoaaGreatE4
namespace Go.Proofs.YtnkjaocmfhjnoaaGreat
open Go Go.RowKit
set_option maxRecDepth 100000

def ofB (f : Nat → Bool) : Nat → Nat
  | 0 => 0
  | n + 1 => ofB f n + if f n = true then 2 ^ n else 0
theorem ofB_lt (f : Nat → Bool) (n : Nat) : ofB f n < 2 ^ n := by
  induction n with
  | zero => simp [ofB]
  | succ n ih =>
    rw [ofB, Nat.pow_succ]
    split <;> omega
theorem ofB_bit (f : Nat → Bool) (n i : Nat) : (ofB f n).testBit i = (decide (i < n) && f i) := by
  induction n with
  | zero => simp [ofB]
  | succ n ih =>
    rw [ofB]
    have hl := ofB_lt f n
    by_cases hf : f n = true
    · rw [if_pos hf, Nat.add_comm]
      by_cases hi : i = n
      · subst hi
        rw [Nat.testBit_two_pow_add_eq, ih]
        simp [hf]
      · by_cases hi2 : i < n
        · rw [Nat.testBit_two_pow_add_gt hi2, ih]
          simp [hi2, show i < n + 1 by omega]
        · have h1 : 2 ^ n + ofB f n < 2 ^ i := by
            have h2 : (2 : Nat) ^ (n + 1) ≤ 2 ^ i := Nat.pow_le_pow_right (by decide) (by omega)
            rw [Nat.pow_succ] at h2
            omega
          rw [Nat.testBit_lt_two_pow h1]
          simp [show ¬ i < n + 1 by omega]
    · have hf' : f n = false := by simpa using hf
      rw [if_neg hf, Nat.add_zero, ih]
      by_cases hi : i = n
      · subst hi
        simp [hf']
      · by_cases hi2 : i < n
        · simp [hi2, show i < n + 1 by omega]
        · simp [hi2, show ¬ i < n + 1 by omega]
theorem eq_ofB (x n : Nat) (f : Nat → Bool) (hx : x < 2 ^ n) (h : ∀ i, i < n → x.testBit i = f i) : x = ofB f n := by
  apply Nat.eq_of_testBit_eq
  intro i
  rw [ofB_bit]
  by_cases hi : i < n
  · simp [hi, h i hi]
  · have : (2 : Nat) ^ n ≤ 2 ^ i := Nat.pow_le_pow_right (by decide) (by omega)
    rw [Nat.testBit_lt_two_pow (by omega)]
    simp [hi]
def mskF (mode umask : Int) (i : Nat) : Bool := ((mode % 4096).toNat).testBit i && !((umask % 4096).toNat).testBit i
def mskM (mode umask : Int) : Int := (ofB (mskF mode umask) 9 : Nat)
theorem msk_bd (mode umask : Int) : 0 ≤ mskM mode umask ∧ mskM mode umask ≤ 511 := by
  have := ofB_lt (mskF mode umask) 9
  unfold mskM
  omega
def sgB (n : Nd) : Bool := n.mode.toNat.testBit 10
def plR (t : List Nd) (c : Wh) (F : Fo) (k m : Int) (tg : Nm) : Rw :=
  ⟨k, if sgB (tget t F.dir) = true ∧ k = 2 then m + 1024 else m, c.u, if sgB (tget t F.dir) = true then (tget t F.dir).gid else c.g, F.dir, F.name, [], tg, 0⟩
noncomputable def plE (t : List Nd) (c : Wh) (R : Fo × Int) (k m : Int) (tg : Nm) : Int :=
  if R.2 ≠ 0 then R.2 else if R.1.node ≠ 0 then 17 else if canT t c R.1.dir 3 = false then 13 else if 8 ≤ (tget t R.1.dir).ents.length ∨ usedT t = t.length then 28 else if toB (rightP (plR t c R.1 k m tg).nd) = false then 22 else 0
noncomputable def plT (t : List Nd) (c : Wh) (R : Fo × Int) (k m : Int) (tg : Nm) : List Nd := if plE t c R k m tg = 0 then blT t (plR t c R.1 k m tg) else t
noncomputable def plI (t : List Nd) (c : Wh) (R : Fo × Int) (k m : Int) (tg : Nm) : Int := if plE t c R k m tg = 0 then (freeT t 0 : Int) else 0
theorem pl_zero {t : List Nd} {c : Wh} {R : Fo × Int} {k m : Int} {tg : Nm} : plE t c R k m tg = 0 ↔ R.2 = 0 ∧ R.1.node = 0 ∧ canT t c R.1.dir 3 = true ∧ ((tget t R.1.dir).ents.length < 8 ∧ usedT t ≠ t.length) ∧ rightP (plR t c R.1 k m tg).nd := by
  unfold plE
  by_cases h1 : R.2 = 0
  · rw [if_neg (fun q => q h1)]
    by_cases h2 : R.1.node = 0
    · rw [if_neg (fun q => q h2)]
      cases h3 : canT t c R.1.dir 3 with
      | false => simp
      | true =>
        rw [if_neg (by decide)]
        by_cases h4 : 8 ≤ (tget t R.1.dir).ents.length ∨ usedT t = t.length
        · rw [if_pos h4]
          refine ⟨fun q => absurd q (by decide), fun q => ?_⟩
          rcases h4 with h4 | h4
          · have := q.2.2.2.1.1; omega
          · exact absurd h4 q.2.2.2.1.2
        · rw [if_neg h4]
          by_cases h5 : rightP (plR t c R.1 k m tg).nd
          · rw [toB_true h5, if_neg (by decide)]
            exact ⟨fun _ => ⟨h1, h2, rfl, ⟨by omega, fun q => h4 (.inr q)⟩, h5⟩, fun _ => rfl⟩
          · rw [toB_false h5, if_pos rfl]
            exact ⟨fun q => absurd q (by decide), fun q => absurd q.2.2.2.2 h5⟩
    · rw [if_pos h2]
      exact ⟨fun q => absurd q (by decide), fun q => absurd q.2.1 h2⟩
  · rw [if_pos h1]
    exact ⟨fun q => absurd q h1, fun q => absurd q.1 h1⟩
theorem pl_err {t : List Nd} {c : Wh} {R : Fo × Int} {k m : Int} {tg : Nm} (h : plE t c R k m tg ≠ 0) : plT t c R k m tg = t ∧ plI t c R k m tg = 0 := ⟨if_neg h, if_neg h⟩

/-! Where a path leads, if there is nothing yet. -/
structure Gn (n : Nm) : Prop where
  ne : n ≠ []
  sl : noSl n
  nul : n.contains 0 = false
theorem npF_in : ∀ (p cur : List UInt8), noSl cur → ∀ n ∈ npF cur p, noSl n ∧ ∀ x ∈ n, x ∈ cur ∨ x ∈ p
  | [], cur, hc, n, h => by
    rw [npF] at h
    split at h
    · cases h
    · rw [List.mem_singleton] at h
      subst h
      exact ⟨hc, fun x hx => .inl hx⟩
  | a :: r, cur, hc, n, h => by
    have hn : noSl ([] : List UInt8) := fun x hx => by cases hx
    have up : (noSl n ∧ ∀ x ∈ n, x ∈ ([] : List UInt8) ∨ x ∈ r) → noSl n ∧ ∀ x ∈ n, x ∈ cur ∨ x ∈ a :: r := fun q => ⟨q.1, fun x hx => (q.2 x hx).elim (fun z => by cases z) (fun z => .inr (List.mem_cons_of_mem _ z))⟩
    rw [npF] at h
    split at h
    · split at h
      · exact up (npF_in r [] hn n h)
      · rcases List.mem_cons.1 h with h | h
        · subst h
          exact ⟨hc, fun x hx => .inl hx⟩
        · exact up (npF_in r [] hn n h)
    · rename_i ha
      obtain ⟨h1, h2⟩ := npF_in r (cur ++ [a]) (fun x hx => by
        rcases List.mem_append.1 hx with q | q
        · exact hc x q
        · rw [List.mem_singleton] at q; rw [q]; exact ha) n h
      refine ⟨h1, fun x hx => ?_⟩
      rcases h2 x hx with q | q
      · rcases List.mem_append.1 q with q | q
        · exact .inl q
        · rw [List.mem_singleton] at q; rw [q]; exact .inr (List.mem_cons_self ..)
      · exact .inr (List.mem_cons_of_mem _ q)
theorem split_gn {p : Nm} (h : p.contains 0 = false) : ∀ n ∈ splitP p, Gn n := fun n hn => by
  have hne := split_ne p n hn
  have key : ∀ n ∈ nms p, noSl n ∧ n.contains 0 = false := fun n hn => by
    obtain ⟨h1, h2⟩ := npF_in p [] (fun x hx => by cases hx) n hn
    refine ⟨h1, ?_⟩
    cases hz : n.contains 0 with
    | false => rfl
    | true =>
      have : (0 : UInt8) ∈ n := by simpa using hz
      rcases h2 0 this with q | q
      · cases q
      · have q2 : p.contains 0 = true := by simpa using q
        rw [h] at q2
        cases q2
  unfold splitP at hn
  split at hn
  · rcases List.mem_append.1 hn with q | q
    · exact ⟨hne, (key n q).1, (key n q).2⟩
    · rw [List.mem_singleton] at q
      subst q
      exact ⟨hne, fun x hx => by rw [List.mem_singleton] at hx; rw [hx]; decide, by decide⟩
  · exact ⟨hne, (key n hn).1, (key n hn).2⟩
theorem target_nul {t : List Nd} (h : okT t) {i : Int} (hk : (tget t i).kind = 3) : (tget t i).target.contains 0 = false := by
  rcases ok_tget h i with h1 | h1
  · rw [h1] at hk
    exact absurd hk (by decide)
  · rcases h1.2 with q | q | q
    · have := q.1; omega
    · have := q.1; omega
    · have := q.2.2.2.2
      unfold fok at this
      simp only [Bool.and_eq_true, Bool.not_eq_true'] at this
      exact this.2
theorem wlk_new {t : List Nd} (ho : okT t) {c : Wh} {f : Bool} : ∀ k l i, i ≠ 0 → (∀ n ∈ l, Gn n) → (wlk t c f k l i).2 = 0 → (wlk t c f k l i).1.node = 0 →
    srE t c (wlk t c f k l i).1.dir = 0 ∧ Gn (wlk t c f k l i).1.name ∧ ((wlk t c f k l i).1.name ≠ [46] ∧ (wlk t c f k l i).1.name ≠ [46, 46]) ∧ ¬ 12 < (wlk t c f k l i).1.name.length ∧ fnd (tget t (wlk t c f k l i).1.dir).ents (wlk t c f k l i).1.name = 0 := by
  refine wlk_ind (fun k i hi _ _ hz => ?_) (fun k n r i ih ih2 hi hg => ?_)
  · rw [wlk_nil] at hz
    exact absurd hz hi
  have hgr : ∀ m ∈ r, Gn m := fun m hm => hg m (List.mem_cons_of_mem _ hm)
  rcases wlk_step t c f k n r i with ⟨a, e⟩ | ⟨a, b, e⟩ | ⟨a, b, e⟩ | ⟨a, b, d, e⟩ | ⟨a, b, d, ⟨x, y, e⟩ | ⟨x, y, ⟨z, e⟩ | ⟨j, hj, e⟩⟩ | ⟨x, y, e⟩ | ⟨x, y, z, e⟩⟩ <;> rw [e]
  · exact fun q => absurd q a
  · exact ih _ hi hgr
  · exact ih _ (up_ne hi) hgr
  · exact fun q => absurd q (by decide)
  · exact fun q => absurd q (by decide)
  · exact fun q => absurd q (by decide)
  · subst hj
    refine ih2 j _ _ (Nat.lt_succ_self _) ?_ (fun m hm => ?_)
    · split
      · decide
      · exact hi
    · rcases List.mem_append.1 hm with q | q
      · exact split_gn (target_nul ho y.1) m q
      · exact hgr m q
  · exact fun _ q => ⟨a, hg n (List.mem_cons_self ..), b, d, q⟩
  · exact ih _ y hgr
theorem res_new {t : List Nd} (ho : okT t) {c : Wh} {p : Nm} {f : Bool} (h : (resM t c p f).2 = 0) (hn : (resM t c p f).1.node = 0) :
    (tget t (resM t c p f).1.dir).kind = 2 ∧ nok (resM t c p f).1.name = true ∧ ¬ (resM t c p f).1.name ∈ nmE (tget t (resM t c p f).1.dir).ents := by
  by_cases hf : fitE t p = 0
  · have e : resM t c p f = wlk t c f 8 (splitP p) 1 := by
      unfold resM
      rw [if_neg (fun q => q hf)]
    rw [e] at h hn ⊢
    obtain ⟨h1, h2, h3, h4, h5⟩ := wlk_new ho 8 (splitP p) 1 (by decide) (split_gn (fit_why.1 hf).2.2.1) h hn
    generalize (wlk t c f 8 (splitP p) 1).1 = F at h1 h2 h3 h4 h5 ⊢
    have hk := (sr_zero.1 h1).1
    refine ⟨hk, ?_, fun q => ?_⟩
    · have h47 : F.name.contains 47 = false := by
        cases hz : F.name.contains 47 with
        | false => rfl
        | true =>
          have : (47 : UInt8) ∈ F.name := by simpa using hz
          exact absurd rfl (h2.sl _ this)
      unfold nok badN
      rw [h47, h2.nul]
      simp [h2.ne, h3.1, h3.2]
      omega
    · obtain ⟨e, he, -, h6⟩ := fnd_some q
      rcases (tis_right ho (kind_tis hk)).2 with z | z | z
      · have := z.1; omega
      · have := (z.2.2.2.1 e he).2
        omega
      · have := z.1; omega
  · have e : resM t c p f = (Fo.zero, fitE t p) := by
      unfold resM
      rw [if_pos hf]
    rw [e] at h
    exact absurd h hf

/-! What is there, once it is made. -/
end Go.Proofs.YtnkjaocmfhjnoaaGreat
namespace Go.Proofs.YtnkjaocmfhjnoaaGreat
open Go Go.RowKit
set_option maxRecDepth 100000

section
variable {t t' : List Nd} {D I : Int} {N : Nm} {m : Nd}
theorem fnd_ins_ne {n x : Nm} {i : Int} (hne : n ≠ x) : ∀ l : List En, fnd (ins (x, i) l) n = fnd l n
  | [] => by
    show fnd [(x, i)] n = 0
    unfold fnd
    rw [if_neg (fun q => hne q.symm)]
    rfl
  | e :: l => by
    rw [ins]
    split
    · rw [fnd, if_neg (fun q => hne q.symm)]
    · rw [fnd, fnd, fnd_ins_ne hne l]
end
def mkM (mode umask : Int) : Int := mskM mode umask + if ((mode % 4096).toNat).testBit 9 = true then 512 else 0
theorem mk_bd (mode umask : Int) : 0 ≤ mkM mode umask ∧ mkM mode umask ≤ 1023 := by
  have := msk_bd mode umask
  unfold mkM
  split <;> omega
end Go.Proofs.YtnkjaocmfhjnoaaGreat
namespace Go.Proofs.YtnkjaocmfhjnoaaGreat
open Go Go.RowKit
set_option maxRecDepth 100000

/-! Lists of entries. -/
theorem cnt_del {n : Nm} {j : Int} : ∀ {l : List En}, n ∈ nmE l → cntE (del l n) j + (if fnd l n = j then 1 else 0) = cntE l j
  | [], h => by cases h
  | e :: l, h => by
    rw [del, fnd]
    split
    · unfold cntE
      rw [List.countP_cons]
      simp only [decide_eq_true_eq]
    · rename_i q
      have h2 : n ∈ nmE l := by
        rcases List.mem_cons.1 h with h | h
        · exact absurd h.symm q
        · exact h
      have ih := cnt_del (j := j) h2
      unfold cntE at ih ⊢
      rw [List.countP_cons, List.countP_cons]
      omega
theorem fnd_del_ne {n x : Nm} (hne : n ≠ x) : ∀ l : List En, fnd (del l x) n = fnd l n
  | [] => rfl
  | e :: l => by
    rw [del]
    split
    · rename_i q
      rw [fnd, if_neg (fun z => hne (by rw [← z, q]))]
    · rw [fnd, fnd, fnd_del_ne hne l]
theorem fnd_del {l : List En} {n : Nm} (h : rise (nmE l)) : fnd (del l n) n = 0 := fnd_none (del_gone h)
theorem fnd_mem {l : List En} {n : Nm} (h : fnd l n ≠ 0) : n ∈ nmE l := Classical.byContradiction (fun q => h (fnd_none q))
theorem del_mem {l : List En} {n : Nm} {e : En} (h : e ∈ del l n) : e ∈ l := (del_sub l n).subset h
theorem ok_ris {t : List Nd} (h : okT t) (i : Int) : rise (nmE (tget t i).ents) := by
  rcases ok_tget h i with q | q
  · rw [q]; exact List.Pairwise.nil
  · rcases q.2 with q | q | q
    · rw [q.2.1]; exact List.Pairwise.nil
    · exact q.2.2.2.2.1
    · rw [q.2.2.1]; exact List.Pairwise.nil
theorem ok_eight {t : List Nd} (h : okT t) (i : Int) : (tget t i).ents.length ≤ 8 := by
  rcases ok_tget h i with q | q
  · rw [q]; exact Nat.zero_le _
  · rcases q.2 with q | q | q
    · rw [q.2.1]; exact Nat.zero_le _
    · exact q.2.2.2.2.2
    · rw [q.2.2.1]; exact Nat.zero_le _
theorem ok_pos {t : List Nd} (h : okT t) {i : Int} {e : En} (he : e ∈ (tget t i).ents) : 1 ≤ e.2 := by
  rcases ok_tget h i with q | q
  · rw [q] at he; cases he
  · rcases q.2 with q | q | q
    · rw [q.2.1] at he; cases he
    · exact (q.2.2.2.1 e he).2
    · rw [q.2.2.1] at he; cases he
theorem ok_fnd {t : List Nd} (h : okT t) {i : Int} {n : Nm} (hz : fnd (tget t i).ents n ≠ 0) : 1 ≤ fnd (tget t i).ents n := by
  obtain ⟨e, he, -, h2⟩ := fnd_some (fnd_mem hz)
  rw [h2]
  exact ok_pos h he
theorem ok_leaf {t : List Nd} (h : okT t) {i : Int} (hk : (tget t i).kind ≠ 2) : (tget t i).ents = [] := by
  rcases ok_tget h i with q | q
  · rw [q]; rfl
  · exact right_other q hk
theorem par_dir {t : List Nd} (h : okT t) {j : Int} (hp : parF t j ≠ 0) : (tget t (parF t j)).kind = 2 ∧ cntE (tget t (parF t j)).ents j ≠ 0 := by
  have key : ∀ (t : List Nd) (d : Nat), parT t d j ≠ 0 → ∃ k, ∃ hk : k < t.length, parT t d j = d + k + 1 ∧ cntE (t[k]).ents j ≠ 0 := by
    intro t
    induction t with
    | nil => intro d h; exact absurd rfl h
    | cons n t ih =>
      intro d h
      rw [parT] at h ⊢
      split
      · rename_i q
        rw [if_pos q] at h
        obtain ⟨k, hk, e1, e2⟩ := ih (d + 1) h
        exact ⟨k + 1, by rw [List.length_cons]; omega, by omega, by simpa using e2⟩
      · rename_i q
        exact ⟨0, Nat.succ_pos _, by omega, by simpa using q⟩
  obtain ⟨k, hk, e1, e2⟩ := key t 0 (fun q => hp (by unfold parF; rw [q]; rfl))
  have e3 : parF t j = (k : Int) + 1 := by unfold parF; omega
  rw [e3, tget_at hk]
  refine ⟨Classical.byContradiction (fun q => e2 ?_), e2⟩
  rw [ok_ents h (List.getElem_mem hk) q]
  rfl
theorem par_none {t : List Nd} {j : Int} (h : linkT t j = 0) : parF t j = 0 := by unfold parF; rw [(par_zero t 0).2 h]; rfl

/-! The three changes. -/
structure Cut (t t1 : List Nd) (d : Int) (n : Nm) (i : Int) : Prop where
  get : ∀ j, tget t1 j = if j = d then { tget t d with ents := del (tget t d).ents n } else tget t j
  link : ∀ j, linkT t1 j + (if i = j then 1 else 0) = linkT t j
  par : ∀ j, j ≠ i → parF t1 j = parF t j
  len : t1.length = t.length
  ok : okT t1
  used : usedT t1 = usedT t
def cutT (t : List Nd) (d : Int) (n : Nm) : List Nd := setT t d (outM (tget t d) n)
theorem cut_is {t : List Nd} (ho : okT t) {d : Int} {n : Nm} {i : Int} (hk : (tget t d).kind = 2) (hn : fnd (tget t d).ents n = i) (hi : i ≠ 0) : Cut t (cutT t d n) d n i := by
  have hm : n ∈ nmE (tget t d).ents := fnd_mem (by rw [hn]; exact hi)
  have he : outE (tget t d) n = 0 := by unfold outE; rw [if_neg (fun q => q hk), if_pos hm]
  have hM : outM (tget t d) n = { tget t d with ents := del (tget t d).ents n } := if_pos he
  have hti := kind_tis hk
  have hin := tis_in hti
  have hr := (right_out (tis_right ho hti) he).1
  have hu := used_put hti hr
  rw [hM] at hr hu
  unfold cutT
  rw [hM]
  refine ⟨fun j => tget_set hin, fun j => ?_, fun j hj => ?_, len_setT .., ok_setT ho _ (.inr hr), hu⟩
  · have h1 := link_set hin { tget t d with ents := del (tget t d).ents n } j
    have h2 := cnt_del (j := j) hm
    rw [hn] at h2
    have h3 : cntE ({ tget t d with ents := del (tget t d).ents n } : Nd).ents j = cntE (del (tget t d).ents n) j := rfl
    rw [h3] at h1
    omega
  · unfold parF
    rw [par_set hin (j := j) (n := { tget t d with ents := del (tget t d).ents n }) ?_]
    have h2 := cnt_del (j := j) hm
    rw [hn, if_neg (fun q => hj q.symm)] at h2
    show cntE (del (tget t d).ents n) j = 0 ↔ _
    rw [← h2]
    exact Iff.rfl
structure Add (t t1 : List Nd) (d : Int) (n : Nm) (i : Int) : Prop where
  get : ∀ j, tget t1 j = if j = d then { tget t d with ents := ins (n, i) (tget t d).ents } else tget t j
  link : ∀ j, linkT t1 j = linkT t j + (if i = j then 1 else 0)
  par : ∀ j, j ≠ i → parF t1 j = parF t j
  own : linkT t i = 0 → parF t1 i = d
  len : t1.length = t.length
  ok : okT t1
  used : usedT t1 = usedT t
def addT (t : List Nd) (d : Int) (n : Nm) (i : Int) : List Nd := setT t d (withM (tget t d) n i)
theorem add_is {t : List Nd} (ho : okT t) {d : Int} {n : Nm} {i : Int} (he : withE (tget t d) n i = 0) : Add t (addT t d n i) d n i := by
  have hM := withM_zero he
  have hti := kind_tis (withE_zero.1 he).1
  have hin := tis_in hti
  have hr := (right_with (tis_right ho hti) he).1
  have hu := used_put hti hr
  rw [hM] at hr hu
  unfold addT
  rw [hM]
  have hget : ∀ j, tget (setT t d { tget t d with ents := ins (n, i) (tget t d).ents }) j = if j = d then { tget t d with ents := ins (n, i) (tget t d).ents } else tget t j := fun j => tget_set hin
  refine ⟨hget, fun j => ?_, fun j hj => ?_, fun hl => ?_, len_setT .., ok_setT ho _ (.inr hr), hu⟩
  · obtain ⟨M, hMM⟩ : ∃ M : Nd, ({ tget t d with ents := ins (n, i) (tget t d).ents } : Nd) = M := ⟨_, rfl⟩
    have hME : M.ents = ins (n, i) (tget t d).ents := by rw [← hMM]
    rw [hMM]
    have h1 := link_set hin M j
    have h5 : cntE M.ents j = cntE (tget t d).ents j + (if i = j then 1 else 0) := by rw [hME]; exact cnt_ins (n, i) _ j
    omega
  · unfold parF
    rw [par_set hin (j := j) (n := { tget t d with ents := ins (n, i) (tget t d).ents }) ?_]
    show cntE (ins (n, i) (tget t d).ents) j = 0 ↔ _
    rw [cnt_ins, if_neg (fun q => hj q.symm)]
    exact Iff.rfl
  · have hk : (d - 1).toNat < (setT t d { tget t d with ents := ins (n, i) (tget t d).ents }).length := by rw [len_setT]; omega
    have he1 : d = (((d - 1).toNat : Nat) : Int) + 1 := by omega
    have hp := par_one (j := i) (setT t d { tget t d with ents := ins (n, i) (tget t d).ents }) 0 (d - 1).toNat ⟨hk, by
      rw [← tget_at hk, ← he1, hget, if_pos rfl]
      show cntE (ins (n, i) (tget t d).ents) i ≠ 0
      rw [cnt_ins, if_pos rfl]
      omega⟩ (fun m hm hmk => by
      rw [← tget_at hm, hget, if_neg (by omega)]
      exact link_zero.1 hl _)
    unfold parF
    rw [hp]
    omega
structure Drq (t t1 : List Nd) (i : Int) : Prop where
  get : ∀ j, tget t1 j = if j = i then Nd.zero else tget t j
  link : ∀ j, linkT t1 j = linkT t j
  par : ∀ j, parF t1 j = parF t j
  len : t1.length = t.length
  ok : okT t1
  used : usedT t1 + 1 = usedT t
theorem drp_is {t : List Nd} (ho : okT t) {i : Int} (hi : tis t i = true) (he : (tget t i).ents = []) : Drq t (setT t i Nd.zero) i := by
  have hin := tis_in hi
  refine ⟨fun j => tget_set hin, fun j => ?_, fun j => ?_, len_setT .., ok_setT ho _ (.inl rfl), used_drop hi⟩
  · have h1 := link_set hin Nd.zero j
    rw [he] at h1
    exact h1
  · unfold parF
    rw [par_set hin (j := j) (n := Nd.zero) (by rw [he]; exact Iff.rfl)]

/-! Trees. -/
structure Tre (t : List Nd) : Prop where
  ok : okT t
  le : t.length ≤ 24
  one : (tget t 1).kind = 2
  top : linkT t 1 = 0
  here : ∀ (i : Int) (e : En), e ∈ (tget t i).ents → tis t e.2 = true
  file : ∀ i : Int, tis t i = true → i ≠ 1 → 1 ≤ linkT t i
  dir : ∀ i : Int, (tget t i).kind = 2 → i ≠ 1 → linkT t i = 1
  root : ∀ i : Int, (tget t i).kind = 2 → ∃ m, itr (parF t) m i = 1
theorem tre_trx {t : List Nd} (h : Trx t) : Tre t := by
  have hd : ∀ (n : Nat) (i : Int), i ≤ n → (tget t i).kind = 2 → ∃ m, itr (parF t) m i = 1 := by
    intro n
    induction n with
    | zero => intro i h1 h2; have := tis_in (kind_tis h2); omega
    | succ n ih =>
      intro i h1 h2
      rcases dir_par h h2 with ⟨q, -⟩ | ⟨q1, q2, q3⟩
      · exact ⟨0, q⟩
      · obtain ⟨m, hm⟩ := ih (parF t i) (by omega) q3
        exact ⟨m + 1, hm⟩
  refine ⟨h.ok, h.le, h.one, h.top, fun i e he => (h.num _).2 (h.here i e he), fun i hi hne => ?_, fun i hk hne => ?_, fun i hk => ?_⟩
  · have hn := (h.num i).1 hi
    exact (h.link i (by omega) hn.2).1
  · have hn := (h.num i).1 (kind_tis hk)
    exact ((h.link i (by omega) hn.2).2 hk).1
  · have hn := tis_in (kind_tis hk)
    exact hd i.toNat i (by omega) hk
theorem root_keep {t t' : List Nd} (ho : okT t) {A : Int → Prop} (hp : ∀ j, ¬ A j → parF t' j = parF t j) (he : ∀ a, A a → (tget t a).ents = []) : ∀ (m : Nat) (j : Int), ¬ A j → itr (parF t) m j = 1 → ∃ m', itr (parF t') m' j = 1
  | 0, j, _, h => ⟨0, h⟩
  | m + 1, j, hj, h => by
    by_cases hz : parF t j = 0
    · have h2 : itr (parF t) m (parF t j) = 1 := h
      rw [hz, itr_zero (parF_zero ho)] at h2
      exact absurd h2 (by decide)
    · have hA : ¬ A (parF t j) := fun q => by
        have h3 := (par_dir ho hz).2
        rw [he _ q] at h3
        exact h3 rfl
      obtain ⟨m', h4⟩ := root_keep ho hp he m (parF t j) hA h
      refine ⟨m' + 1, ?_⟩
      show itr (parF t') m' (parF t' j) = 1
      rw [hp j hj]
      exact h4
theorem root_off {t t' : List Nd} {A : Int → Prop} (hp : ∀ j, ¬ A j → parF t' j = parF t j) : ∀ (m : Nat) (j : Int), (∀ a, a < m → ¬ A (itr (parF t) a j)) → itr (parF t) m j = 1 → itr (parF t') m j = 1
  | 0, j, _, h => h
  | m + 1, j, hj, h => by
    show itr (parF t') m (parF t' j) = 1
    rw [hp j (hj 0 (Nat.succ_pos _))]
    exact root_off hp m (parF t j) (fun a ha => hj (a + 1) (by omega)) h
theorem root_move {t t' : List Nd} (ho : okT t) {i k D : Int} (hp : ∀ j, j ≠ i → j ≠ k → parF t' j = parF t j) (hk : (tget t k).ents = []) (hi : parF t' i = D) (hD : ∃ m, itr (parF t') m D = 1) : ∀ (m : Nat) (j : Int), j ≠ k → itr (parF t) m j = 1 → ∃ m', itr (parF t') m' j = 1
  | 0, j, _, h => ⟨0, h⟩
  | m + 1, j, hj, h => by
    by_cases hij : j = i
    · subst hij
      obtain ⟨a, ha⟩ := hD
      refine ⟨a + 1, ?_⟩
      show itr (parF t') a (parF t' j) = 1
      rw [hi]
      exact ha
    by_cases hz : parF t j = 0
    · have h2 : itr (parF t) m (parF t j) = 1 := h
      rw [hz, itr_zero (parF_zero ho)] at h2
      exact absurd h2 (by decide)
    · have hA : parF t j ≠ k := fun q => by
        have h3 := (par_dir ho hz).2
        rw [q, hk] at h3
        exact h3 rfl
      obtain ⟨m', h4⟩ := root_move ho hp hk hi hD m (parF t j) hA h
      refine ⟨m' + 1, ?_⟩
      show itr (parF t') m' (parF t' j) = 1
      rw [hp j hij hj]
      exact h4
end Go.Proofs.YtnkjaocmfhjnoaaGreat
namespace Go.Proofs.YtnkjaocmfhjnoaaGreat
open Go Go.RowKit
set_option maxRecDepth 100000

def frB (t : List Nd) (i : Int) (op : List Int) : Bool := decide (i ≠ 1) && (decide (linkT t i = 0) && (!op.contains i && tis t i))
def frT (t : List Nd) (i : Int) (op : List Int) : List Nd := if frB t i op = true then setT t i Nd.zero else t
def dropT (t : List Nd) (i : Int) : List Nd := if tis t i = true then setT t i Nd.zero else t
def blw (t : List Nd) (dir : Int) : Nat → Int → Bool
  | 0, i => i == dir
  | k + 1, i => if i = dir then true else if i = 0 then false else blw t dir k (parF t i)
def blwB (t : List Nd) (i dir : Int) : Bool := blw t dir 24 i
def stkB (t : List Nd) (c : Wh) (F : Fo) : Bool := c.u == 0 || bits .and .i64 (tget t F.dir).mode 512 == 0 || (tget t F.dir).uid == c.u || (tget t F.node).uid == c.u
def fnE (t : List Nd) (c : Wh) (R : Fo × Int) : Int :=
  if R.2 ≠ 0 then R.2 else if R.1.node = 0 then 2 else if R.1.name = [] then 22 else if canT t c R.1.dir 2 = false then 13 else if stkB t c R.1 = false then 1 else 0
theorem fn_zero {t : List Nd} {c : Wh} {R : Fo × Int} : fnE t c R = 0 ↔ R.2 = 0 ∧ R.1.node ≠ 0 ∧ R.1.name ≠ [] ∧ canT t c R.1.dir 2 = true ∧ stkB t c R.1 = true := by
  unfold fnE
  by_cases h1 : R.2 = 0
  · rw [if_neg (fun q => q h1)]
    by_cases h2 : R.1.node = 0
    · rw [if_pos h2]
      exact ⟨fun q => absurd q (by decide), fun q => absurd h2 q.2.1⟩
    · rw [if_neg h2]
      by_cases h3 : R.1.name = []
      · rw [if_pos h3]
        exact ⟨fun q => absurd q (by decide), fun q => absurd h3 q.2.2.1⟩
      · rw [if_neg h3]
        cases h4 : canT t c R.1.dir 2 with
        | false => simp
        | true =>
          rw [if_neg (by decide)]
          cases h5 : stkB t c R.1 with
          | false => simp
          | true =>
            rw [if_neg (by decide)]
            exact ⟨fun _ => ⟨h1, h2, h3, rfl, rfl⟩, fun _ => rfl⟩
  · rw [if_pos h1]
    exact ⟨fun q => absurd q h1, fun q => absurd q.1 h1⟩
def ulE (t : List Nd) (c : Wh) (R : Fo × Int) : Int := if fnE t c R ≠ 0 then fnE t c R else if (tget t R.1.node).kind = 2 then 21 else 0
def ulT (t : List Nd) (c : Wh) (R : Fo × Int) (op : List Int) : List Nd := if ulE t c R = 0 then frT (cutT t R.1.dir R.1.name) R.1.node op else t
def rdE (t : List Nd) (c : Wh) (R : Fo × Int) : Int := if fnE t c R ≠ 0 then fnE t c R else if (tget t R.1.node).kind ≠ 2 then 20 else if (tget t R.1.node).ents ≠ [] then 39 else 0
def rdT (t : List Nd) (c : Wh) (R : Fo × Int) : List Nd := if rdE t c R = 0 then dropT (cutT t R.1.dir R.1.name) R.1.node else t
def mvY (t : List Nd) (c : Wh) (i d : Int) (G : Fo) : Int :=
  if G.name = [] then 22 else if canT t c G.dir 3 = false then 13 else if G.node = i then 0 else if (tget t i).kind = 2 ∧ blwB t G.dir i = true then 22
  else if G.node = 0 then (if G.dir ≠ d ∧ 8 ≤ (tget t G.dir).ents.length then 28 else 0)
  else if stkB t c G = false then 1 else if (tget t i).kind = 2 ∧ (tget t G.node).kind ≠ 2 then 20 else if (tget t i).kind ≠ 2 ∧ (tget t G.node).kind = 2 then 21
  else if (tget t G.node).ents ≠ [] then 39 else 0
def mvE (t : List Nd) (c : Wh) (R S : Fo × Int) : Int := if fnE t c R ≠ 0 then fnE t c R else if S.2 ≠ 0 then S.2 else mvY t c R.1.node R.1.dir S.1
def mv2 (t : List Nd) (d : Int) (n : Nm) (D : Int) (N : Nm) (k : Int) : List Nd := if k ≠ 0 then cutT (cutT t d n) D N else cutT t d n
def mv3 (t : List Nd) (d : Int) (n : Nm) (i D : Int) (N : Nm) (k : Int) : List Nd := addT (mv2 t d n D N k) D N i
def mvT (t : List Nd) (c : Wh) (R S : Fo × Int) (op : List Int) : List Nd :=
  if mvE t c R S ≠ 0 ∨ S.1.node = R.1.node then t else frT (mv3 t R.1.dir R.1.name R.1.node S.1.dir S.1.name S.1.node) S.1.node op
theorem mvY_zero {t : List Nd} {c : Wh} {i d : Int} {G : Fo} (h : mvY t c i d G = 0) (hne : G.node ≠ i) : G.name ≠ [] ∧ canT t c G.dir 3 = true ∧ ((tget t i).kind = 2 → blwB t G.dir i = false) ∧
    (G.node = 0 → G.dir ≠ d → (tget t G.dir).ents.length < 8) ∧ (G.node ≠ 0 → stkB t c G = true ∧ ((tget t i).kind = 2 ↔ (tget t G.node).kind = 2) ∧ (tget t G.node).ents = []) := by
  unfold mvY at h
  by_cases h1 : G.name = []
  · rw [if_pos h1] at h; exact absurd h (by decide)
  rw [if_neg h1] at h
  cases h2 : canT t c G.dir 3 with
  | false => rw [h2, if_pos rfl] at h; exact absurd h (by decide)
  | true =>
  rw [h2, if_neg (by decide), if_neg hne] at h
  by_cases h3 : (tget t i).kind = 2 ∧ blwB t G.dir i = true
  · rw [if_pos h3] at h; exact absurd h (by decide)
  rw [if_neg h3] at h
  refine ⟨h1, rfl, fun q => ?_, fun q q2 => ?_, fun q => ?_⟩
  · cases hb : blwB t G.dir i with
    | false => rfl
    | true => exact absurd ⟨q, hb⟩ h3
  · rw [if_pos q] at h
    by_cases h4 : G.dir ≠ d ∧ 8 ≤ (tget t G.dir).ents.length
    · rw [if_pos h4] at h; exact absurd h (by decide)
    · exact Nat.lt_of_not_le (fun z => h4 ⟨q2, z⟩)
  · rw [if_neg q] at h
    cases h4 : stkB t c G with
    | false => rw [h4, if_pos rfl] at h; exact absurd h (by decide)
    | true =>
    rw [h4, if_neg (by decide)] at h
    by_cases h5 : (tget t i).kind = 2 ∧ (tget t G.node).kind ≠ 2
    · rw [if_pos h5] at h; exact absurd h (by decide)
    rw [if_neg h5] at h
    by_cases h6 : (tget t i).kind ≠ 2 ∧ (tget t G.node).kind = 2
    · rw [if_pos h6] at h; exact absurd h (by decide)
    rw [if_neg h6] at h
    by_cases h7 : (tget t G.node).ents ≠ []
    · rw [if_pos h7] at h; exact absurd h (by decide)
    refine ⟨rfl, ⟨fun z => Classical.byContradiction (fun y => h5 ⟨z, y⟩), fun z => Classical.byContradiction (fun y => h6 ⟨y, z⟩)⟩, Classical.byContradiction h7⟩

/-! Where an entry is. -/
structure Ent (t : List Nd) (F : Fo) : Prop where
  kind : (tget t F.dir).kind = 2
  found : fnd (tget t F.dir).ents F.name = F.node
  nam : nok F.name = true
theorem gn_nok {n : Nm} (h2 : Gn n) (h3 : n ≠ [46] ∧ n ≠ [46, 46]) (h4 : ¬ 12 < n.length) : nok n = true := by
  have h47 : n.contains 47 = false := by
    cases hz : n.contains 47 with
    | false => rfl
    | true =>
      have : (47 : UInt8) ∈ n := by simpa using hz
      exact absurd rfl (h2.sl _ this)
  unfold nok badN
  rw [h47, h2.nul]
  simp [h2.ne, h3.1, h3.2]
  omega
theorem wlk_ent {t : List Nd} (ho : okT t) {c : Wh} {f : Bool} : ∀ k l i, (∀ n ∈ l, Gn n) → (wlk t c f k l i).2 = 0 → (wlk t c f k l i).1.name ≠ [] → Ent t (wlk t c f k l i).1 := by
  refine wlk_ind (fun k i _ _ hz => ?_) (fun k n r i ih ih2 hg => ?_)
  · rw [wlk_nil] at hz
    exact absurd rfl hz
  have hgr : ∀ m ∈ r, Gn m := fun m hm => hg m (List.mem_cons_of_mem _ hm)
  rcases wlk_step t c f k n r i with ⟨a, e⟩ | ⟨a, b, e⟩ | ⟨a, b, e⟩ | ⟨a, b, d, e⟩ | ⟨a, b, d, ⟨x, y, e⟩ | ⟨x, y, ⟨z, e⟩ | ⟨j, hj, e⟩⟩ | ⟨x, y, e⟩ | ⟨x, y, z, e⟩⟩ <;> rw [e]
  · exact fun q => absurd q a
  · exact ih _ hgr
  · exact ih _ hgr
  · exact fun q => absurd q (by decide)
  · exact fun q => absurd q (by decide)
  · exact fun q => absurd q (by decide)
  · subst hj
    refine ih2 j _ _ (Nat.lt_succ_self _) (fun m hm => ?_)
    rcases List.mem_append.1 hm with q | q
    · exact split_gn (target_nul ho y.1) m q
    · exact hgr m q
  · exact fun _ _ => ⟨(sr_zero.1 a).1, rfl, gn_nok (hg n (List.mem_cons_self ..)) b d⟩
  · exact ih _ hgr
theorem res_ent {t : List Nd} (ho : okT t) {c : Wh} {p : Nm} {f : Bool} (h : (resM t c p f).2 = 0) (hn : (resM t c p f).1.name ≠ []) : Ent t (resM t c p f).1 := by
  by_cases hf : fitE t p = 0
  · have e : resM t c p f = wlk t c f 8 (splitP p) 1 := by
      unfold resM
      rw [if_neg (fun q => q hf)]
    rw [e] at h hn ⊢
    exact wlk_ent ho 8 (splitP p) 1 (split_gn (fit_why.1 hf).2.2.1) h hn
  · have e : resM t c p f = (Fo.zero, fitE t p) := by
      unfold resM
      rw [if_pos hf]
    rw [e] at h
    exact absurd h hf
theorem fn_ent {t : List Nd} (ho : okT t) {c : Wh} {p : Nm} (h : fnE t c (resM t c p false) = 0) : Ent t (resM t c p false).1 ∧ (resM t c p false).1.node ≠ 0 := by
  obtain ⟨h1, h2, h3, -, -⟩ := fn_zero.1 h
  exact ⟨res_ent ho h1 h3, h2⟩

/-! Below. -/
theorem blw_iff {t : List Nd} (ho : okT t) {dir : Int} (hd : dir ≠ 0) : ∀ (k : Nat) (i : Int), blw t dir k i = true ↔ ∃ m, m ≤ k ∧ itr (parF t) m i = dir
  | 0, i => by
    rw [blw]
    constructor
    · intro h; exact ⟨0, Nat.le_refl _, (by have q : i = dir := (by simpa using h); exact q)⟩
    · rintro ⟨m, h1, h2⟩
      have : m = 0 := by omega
      subst this
      have q : i = dir := h2
      simpa using q
  | k + 1, i => by
    rw [blw]
    split
    · rename_i q
      exact ⟨fun _ => ⟨0, Nat.zero_le _, q⟩, fun _ => rfl⟩
    · rename_i q
      split
      · rename_i q2
        refine ⟨fun h => (by cases h), ?_⟩
        rintro ⟨m, -, h2⟩
        rw [q2, itr_zero (parF_zero ho)] at h2
        exact absurd h2.symm hd
      · rw [blw_iff ho hd k]
        constructor
        · rintro ⟨m, h1, h2⟩
          exact ⟨m + 1, by omega, h2⟩
        · rintro ⟨m, h1, h2⟩
          cases m with
          | zero => exact absurd h2 q
          | succ m => exact ⟨m, by omega, h2⟩
end Go.Proofs.YtnkjaocmfhjnoaaGreat
namespace Go.Proofs.YtnkjaocmfhjnoaaGreat
open Go Go.RowKit
set_option maxRecDepth 100000

def noE (n : Nd) : Nd := ⟨n.kind, n.mode, n.uid, n.gid, n.data, [], n.target⟩
theorem noE_kind (n : Nd) : (noE n).kind = n.kind := rfl
theorem kind_noE {a b : Nd} (h : noE a = noE b) : a.kind = b.kind := by rw [← noE_kind a, h]; rfl
theorem tis_noE {t t' : List Nd} {j : Int} (h : noE (tget t' j) = noE (tget t j)) : tis t' j = tis t j := by unfold tis; rw [kind_noE h]
theorem Cut.head {t t1 : List Nd} {d : Int} {n : Nm} {i : Int} (h : Cut t t1 d n i) (j : Int) : noE (tget t1 j) = noE (tget t j) := by
  rw [h.get j]
  split
  · rename_i q
    rw [q]
    rfl
  · rfl
theorem Cut.mem {t t1 : List Nd} {d : Int} {n : Nm} {i : Int} (h : Cut t t1 d n i) {j : Int} {e : En} (he : e ∈ (tget t1 j).ents) : e ∈ (tget t j).ents := by
  rw [h.get j] at he
  split at he
  · rename_i q
    rw [q]
    exact del_mem he
  · exact he
theorem link_mem {t : List Nd} {j : Int} {i : Int} {e : En} (he : e ∈ (tget t j).ents) (hi : e.2 = i) : linkT t i ≠ 0 := fun q => absurd (link_zero.1 q j) (cnt_pos.2 ⟨e, he, hi⟩)
structure Mv3 (t t3 : List Nd) (d : Int) (n : Nm) (i D : Int) (N : Nm) (k : Int) : Prop where
  head : ∀ j, noE (tget t3 j) = noE (tget t j)
  fnd : ∀ j x, fnd (tget t3 j).ents x = if j = D ∧ x = N then i else if j = d ∧ x = n then 0 else Go.Proofs.YtnkjaocmfhjnoaaGreat.fnd (tget t j).ents x
  link : ∀ j, linkT t3 j + (if k ≠ 0 ∧ k = j then 1 else 0) = linkT t j
  par : ∀ j, j ≠ i → j ≠ k → parF t3 j = parF t j
  own : linkT t i = 1 → parF t3 i = D
  mem : ∀ j e, e ∈ (tget t3 j).ents → e ∈ (tget t j).ents ∨ e.2 = i
  other : ∀ j, j ≠ d → j ≠ D → tget t3 j = tget t j
  ok : okT t3
  len : t3.length = t.length
  used : usedT t3 = usedT t
theorem mv3_is {t : List Nd} (ho : okT t) {d i D k : Int} {n N : Nm} (kd : (tget t d).kind = 2) (fn : fnd (tget t d).ents n = i) (hi : i ≠ 0) (kD : (tget t D).kind = 2) (fN : fnd (tget t D).ents N = k) (hki : k ≠ i) (hN : nok N = true) (hroom : k = 0 → D ≠ d → (tget t D).ents.length < 8) :
    Mv3 t (mv3 t d n i D N k) d n i D N k ∧ withE (tget (mv2 t d n D N k) D) N i = 0 := by
  have c1 := cut_is ho kd fn hi
  have hne : ¬ (D = d ∧ N = n) := fun q => hki (by rw [← fN, ← fn, q.1, q.2])
  have f1 : ∀ j x, fnd (tget (cutT t d n) j).ents x = if j = d ∧ x = n then 0 else fnd (tget t j).ents x := fun j x => by
    rw [c1.get j]
    by_cases q : j = d
    · rw [if_pos q]
      by_cases q2 : x = n
      · rw [if_pos ⟨q, q2⟩, q2]
        exact fnd_del (ok_ris ho d)
      · rw [if_neg (fun z => q2 z.2), q]
        exact fnd_del_ne q2 _
    · rw [if_neg q, if_neg (fun z => q z.1)]
  have k1 : ∀ j, (tget (cutT t d n) j).kind = (tget t j).kind := fun j => kind_noE (c1.head j)
  have hi1 : 1 ≤ i := by rw [← fn]; exact ok_fnd ho (by rw [fn]; exact hi)
  -- the table behind both cuts
  have h2 : (∀ j, noE (tget (mv2 t d n D N k) j) = noE (tget t j)) ∧ (∀ j x, ¬ (j = D ∧ x = N) → fnd (tget (mv2 t d n D N k) j).ents x = if j = d ∧ x = n then 0 else fnd (tget t j).ents x) ∧ (∀ j, linkT (mv2 t d n D N k) j + (if i = j then 1 else 0) + (if k ≠ 0 ∧ k = j then 1 else 0) = linkT t j) ∧ (∀ j, j ≠ i → j ≠ k → parF (mv2 t d n D N k) j = parF t j) ∧ (∀ j e, e ∈ (tget (mv2 t d n D N k) j).ents → e ∈ (tget t j).ents) ∧ (∀ j, j ≠ d → j ≠ D → tget (mv2 t d n D N k) j = tget t j) ∧ okT (mv2 t d n D N k) ∧ (mv2 t d n D N k).length = t.length ∧ usedT (mv2 t d n D N k) = usedT t ∧ ¬ N ∈ nmE (tget (mv2 t d n D N k) D).ents ∧ (tget (mv2 t d n D N k) D).ents.length < 8 := by
    by_cases hk : k = 0
    · have e : mv2 t d n D N k = cutT t d n := if_neg (fun q => q hk)
      rw [e]
      have hnm : ¬ N ∈ nmE (tget t D).ents := fun q => by
        obtain ⟨e, he, -, h3⟩ := fnd_some q
        have := ok_pos ho he
        omega
      refine ⟨c1.head, fun j x _ => f1 j x, fun j => ?_, fun j hj _ => c1.par j hj, fun j e he => c1.mem he, fun j hj _ => ?_, c1.ok, c1.len, c1.used, fun q => hnm ?_, ?_⟩
      · have e5 : (if k ≠ 0 ∧ k = j then 1 else 0) = 0 := if_neg (fun q => q.1 hk)
        have h3 := c1.link j
        omega
      · rw [c1.get j, if_neg hj]
      · obtain ⟨e, he, h3⟩ := List.mem_map.1 q
        exact List.mem_map.2 ⟨e, c1.mem he, h3⟩
      · rw [c1.get D]
        by_cases q : D = d
        · rw [if_pos q]
          have h3 := del_len (fnd_mem (l := (tget t d).ents) (n := n) (by rw [fn]; exact hi))
          have h4 := ok_eight ho d
          show (del (tget t d).ents n).length < 8
          omega
        · rw [if_neg q]
          exact hroom hk q
    · have e : mv2 t d n D N k = cutT (cutT t d n) D N := if_pos hk
      rw [e]
      have fk : fnd (tget (cutT t d n) D).ents N = k := by rw [f1, if_neg hne]; exact fN
      have c2 := cut_is c1.ok (by rw [k1]; exact kD) fk hk
      have hNm := fnd_mem (l := (tget (cutT t d n) D).ents) (n := N) (by rw [fk]; exact hk)
      refine ⟨fun j => (c2.head j).trans (c1.head j), fun j x hx => ?_, fun j => ?_, fun j h1 h2 => by rw [c2.par j h2, c1.par j h1], fun j e he => c1.mem (c2.mem he), fun j h1 h2 => ?_, c2.ok, c2.len.trans c1.len, c2.used.trans c1.used, ?_, ?_⟩
      · rw [← f1 j x, c2.get j]
        by_cases q : j = D
        · rw [if_pos q, q]
          exact fnd_del_ne (fun z => hx ⟨q, z⟩) _
        · rw [if_neg q]
      · have h3 := c1.link j
        have h4 := c2.link j
        by_cases q : k = j
        · have e5 : (if k ≠ 0 ∧ k = j then 1 else 0) = 1 := if_pos ⟨hk, q⟩
          have e6 : (if k = j then 1 else 0) = 1 := if_pos q
          omega
        · have e5 : (if k ≠ 0 ∧ k = j then 1 else 0) = 0 := if_neg (fun z => q z.2)
          have e6 : (if k = j then 1 else 0) = 0 := if_neg q
          omega
      · rw [c2.get j, if_neg h2, c1.get j, if_neg h1]
      · rw [c2.get D, if_pos rfl]
        exact del_gone (ok_ris c1.ok D)
      · rw [c2.get D, if_pos rfl]
        have h3 := del_len hNm
        have h4 := ok_eight c1.ok D
        show (del (tget (cutT t d n) D).ents N).length < 8
        omega
  obtain ⟨g1, g2, g3, g4, g5, g6, g7, g8, g9, g10, g11⟩ := h2
  have hw : withE (tget (mv2 t d n D N k) D) N i = 0 := withE_zero.2 ⟨by rw [kind_noE (g1 D)]; exact kD, hi1, hN, g10, g11⟩
  have a3 := add_is g7 hw
  refine ⟨⟨fun j => ?_, fun j x => ?_, fun j => ?_, fun j h1 h2 => ?_, fun hl => a3.own ?_, fun j e he => ?_, fun j h1 h2 => ?_, a3.ok, a3.len.trans g8, a3.used.trans g9⟩, hw⟩
  · refine Eq.trans ?_ (g1 j)
    unfold mv3
    rw [a3.get j]
    split
    · rename_i q
      rw [q]
      rfl
    · rfl
  · unfold mv3
    rw [a3.get j]
    by_cases q : j = D
    · rw [if_pos q]
      by_cases q2 : x = N
      · rw [if_pos ⟨q, q2⟩, q2]
        exact fnd_ins g10
      · rw [if_neg (fun z => q2 z.2), ← g2 j x (fun z => q2 z.2), q]
        exact fnd_ins_ne q2 _
    · rw [if_neg q, if_neg (fun z => q z.1)]
      exact g2 j x (fun z => q z.1)
  · have h3 := g3 j
    have h4 := a3.link j
    unfold mv3
    omega
  · unfold mv3
    rw [a3.par j h1, g4 j h1 h2]
  · have h3 := g3 i
    rw [if_pos rfl, if_neg (fun q => hki q.2)] at h3
    omega
  · unfold mv3 at he
    rw [a3.get j] at he
    split at he
    · rename_i q
      rcases (mem_ins (N, i) e _).1 he with z | z
      · exact .inr (by rw [z])
      · rw [q]
        exact .inl (g5 D e z)
    · exact .inl (g5 j e he)
  · unfold mv3
    rw [a3.get j, if_neg h2]
    exact g6 j h1 h2
end Go.Proofs.YtnkjaocmfhjnoaaGreat
namespace Go.Proofs.YtnkjaocmfhjnoaaGreat
open Go Go.RowKit
set_option maxRecDepth 100000

structure Tro (t : List Nd) (O : Int → Prop) : Prop where
  ok : okT t
  le : t.length ≤ 24
  one : (tget t 1).kind = 2
  top : linkT t 1 = 0
  here : ∀ (i : Int) (e : En), e ∈ (tget t i).ents → tis t e.2 = true
  file : ∀ i : Int, tis t i = true → i ≠ 1 → 1 ≤ linkT t i ∨ O i
  dir : ∀ i : Int, (tget t i).kind = 2 → i ≠ 1 → linkT t i = 1
  root : ∀ i : Int, (tget t i).kind = 2 → ∃ m, itr (parF t) m i = 1
theorem Tro.weak {t : List Nd} {O O' : Int → Prop} (h : Tro t O) (ho : ∀ i, O i → O' i) : Tro t O' :=
  ⟨h.ok, h.le, h.one, h.top, h.here, fun i h1 h2 => (h.file i h1 h2).imp id (ho i), h.dir, h.root⟩
theorem tro_tre {t : List Nd} (h : Tre t) (O : Int → Prop) : Tro t O := ⟨h.ok, h.le, h.one, h.top, h.here, fun i h1 h2 => .inl (h.file i h1 h2), h.dir, h.root⟩
theorem tro_set {t : List Nd} {O : Int → Prop} (h : Tro t O) {i : Int} {n : Nd} (hi : tis t i = true) (hk : n.kind = (tget t i).kind) (he : n.ents = (tget t i).ents) (hr : rightP n) : Tro (setT t i n) O := by
  have hin := tis_in hi
  have hg : ∀ j, tget (setT t i n) j = if j = i then n else tget t j := fun j => tget_set hin
  have hkd : ∀ j, (tget (setT t i n) j).kind = (tget t j).kind := fun j => by
    rw [hg]
    split
    · rename_i q; rw [q]; exact hk
    · rfl
  have hen : ∀ j, (tget (setT t i n) j).ents = (tget t j).ents := fun j => by
    rw [hg]
    split
    · rename_i q; rw [q]; exact he
    · rfl
  have hlk : ∀ j, linkT (setT t i n) j = linkT t j := fun j => by
    have h1 := link_set hin n j
    rw [he] at h1
    omega
  have hpr : parF (setT t i n) = parF t := funext fun j => by
    unfold parF
    rw [par_set hin (by rw [he])]
  have hts : ∀ j, tis (setT t i n) j = tis t j := fun j => by unfold tis; rw [hkd]
  refine ⟨ok_setT h.ok i (.inr hr), by rw [len_setT]; exact h.le, by rw [hkd]; exact h.one, by rw [hlk]; exact h.top, fun j e hx => ?_, fun j h1 h2 => ?_, fun j h1 h2 => ?_, fun j h1 => ?_⟩
  · rw [hen] at hx
    rw [hts]
    exact h.here j e hx
  · rw [hts] at h1
    rw [hlk]
    exact h.file j h1 h2
  · rw [hkd] at h1
    rw [hlk]
    exact h.dir j h1 h2
  · rw [hkd] at h1
    rw [hpr]
    exact h.root j h1
theorem tro_new {t : List Nd} {O : Int → Prop} (h : Tro t O) {i : Int} (hi : tis t i = false) : linkT t i = 0 := by
  refine Classical.byContradiction (fun q => ?_)
  have h1 : ∃ j, cntE (tget t j).ents i ≠ 0 := Classical.byContradiction (fun z => q (link_zero.2 (fun j => Classical.byContradiction (fun y => z ⟨j, y⟩))))
  obtain ⟨j, hj⟩ := h1
  obtain ⟨e, he, hei⟩ := cnt_pos.1 hj
  have := h.here j e he
  rw [hei, hi] at this
  cases this
theorem tro_plant {t : List Nd} {O : Int → Prop} (h : Tro t O) {c : Wh} {p : Nm} {f : Bool} {k m : Int} {tg : Nm} (hk4 : k ≠ 4) (hz : plE t c (resM t c p f) k m tg = 0) :
    Tro (plT t c (resM t c p f) k m tg) O ∧ (∀ j, tis t j = true → noE (tget (plT t c (resM t c p f) k m tg) j) = noE (tget t j)) ∧ tget (plT t c (resM t c p f) k m tg) (freeT t 0) = (plR t c (resM t c p f).1 k m tg).nd ∧ freeT t 0 ≠ 0 ∧ tis t (freeT t 0) = false := by
  obtain ⟨z1, z2, z3, ⟨z4, z5⟩, z6⟩ := pl_zero.1 hz
  obtain ⟨r1, r2, r3⟩ := res_new h.ok z1 z2
  have hT0 : plT t c (resM t c p f) k m tg = blT t (plR t c (resM t c p f).1 k m tg) := if_pos hz
  rw [hT0]
  have hrp : (plR t c (resM t c p f).1 k m tg).parent = (resM t c p f).1.dir := rfl
  have hrn : (plR t c (resM t c p f).1 k m tg).name = (resM t c p f).1.name := rfl
  have hrk : (plR t c (resM t c p f).1 k m tg).kind = k := rfl
  have hre : (plR t c (resM t c p f).1 k m tg).nd.ents = [] := rfl
  generalize plR t c (resM t c p f).1 k m tg = r at z6 hrp hrn hrk hre ⊢
  generalize (resM t c p f).1.dir = D at z3 z4 r1 r3 hrp ⊢
  generalize (resM t c p f).1.name = N at r2 r3 hrn ⊢
  subst hrp hrn hrk
  have hf : freeT t 0 ≠ 0 := fun q => z5 (free_none.1 q)
  have hp : tis t r.parent = true := kind_tis r1
  obtain ⟨c1, c2, -⟩ := free_is hf
  have he : enE t r = 0 := en_zero.2 (.inr ⟨hk4, z6, hf⟩)
  have hI : enI t r = freeT t 0 := by unfold enI; rw [if_pos he, if_neg hk4]
  have hE : enT t r = setT t (freeT t 0) r.nd := by unfold enT; rw [if_pos he, if_neg hk4]
  have hne : r.parent ≠ (freeT t 0 : Int) := fun q => by rw [q, c2] at hp; cases hp
  have hT : blT t r = addT (setT t (freeT t 0) r.nd) r.parent r.name (freeT t 0) := by
    unfold blT addT
    rw [hI, hE, tget_set c1, if_neg hne]
  rw [hT]
  generalize hII : (freeT t 0 : Int) = I at c1 c2 hne ⊢
  have hg1 : ∀ j, tget (setT t I r.nd) j = if j = I then r.nd else tget t j := fun j => tget_set c1
  have hz0 : tget t I = Nd.zero := tis_not h.ok c2
  have hl1 : ∀ j, linkT (setT t I r.nd) j = linkT t j := fun j => by
    have h1 := link_set c1 r.nd j
    rw [hre, hz0] at h1
    exact h1
  have hp1 : parF (setT t I r.nd) = parF t := funext fun j => by
    unfold parF
    rw [par_set c1 (by rw [hre, hz0]; exact Iff.rfl)]
  have ho1 : okT (setT t I r.nd) := ok_setT h.ok I (.inr z6)
  have hw : withE (tget (setT t I r.nd) r.parent) r.name I = 0 := by
    rw [hg1, if_neg hne]
    exact withE_zero.2 ⟨r1, c1.1, r2, r3, z4⟩
  have a := add_is ho1 hw
  have hl0 : linkT t I = 0 := tro_new h c2
  generalize addT (setT t I r.nd) r.parent r.name I = T at a ⊢
  have hgP : tget (setT t I r.nd) r.parent = tget t r.parent := by rw [hg1, if_neg hne]
  have hgt : ∀ j, tget T j = if j = r.parent then { tget t r.parent with ents := ins (r.name, I) (tget t r.parent).ents } else if j = I then r.nd else tget t j := fun j => by rw [a.get j, hgP, hg1]
  have hno : ∀ j, j ≠ I → noE (tget T j) = noE (tget t j) := fun j hj => by
    rw [hgt j]
    split
    · rename_i q; rw [q]; rfl
    · first | rfl | rw [if_neg hj]
  have hkd : ∀ j, j ≠ I → (tget T j).kind = (tget t j).kind := fun j hj => kind_noE (hno j hj)
  have hti : ∀ j, tis t j = true → j ≠ I := fun j hj q => by rw [q, c2] at hj; cases hj
  have h1I : (1 : Int) ≠ I := hti 1 (kind_tis h.one)
  have hnew : tget T I = r.nd := by rw [hgt I, if_neg (fun q => hne q.symm), if_pos rfl]
  have hisI : tis T I = true := by
    unfold tis
    rw [hnew]
    exact decide_eq_true (right_kind z6)
  have hts : ∀ j, tis t j = true → tis T j = true := fun j hj => by rw [tis_noE (hno j (hti j hj))]; exact hj
  have hlk : ∀ j, linkT T j = linkT t j + (if I = j then 1 else 0) := fun j => by rw [a.link j, hl1]
  refine ⟨⟨a.ok, by rw [a.len, len_setT]; exact h.le, by rw [hkd 1 h1I]; exact h.one, ?_, fun j e hx => ?_, fun j h1 h2 => ?_, fun j h1 h2 => ?_, fun j h1 => ?_⟩, fun j hj => hno j (hti j hj), hnew, hf, c2⟩
  · rw [hlk, if_neg (fun q => h1I q.symm)]
    exact h.top
  · rw [hgt j] at hx
    split at hx
    · rcases (mem_ins (r.name, I) e _).1 hx with z | z
      · rw [z]; exact hisI
      · exact hts _ (h.here _ e z)
    · split at hx
      · rw [hre] at hx
        cases hx
      · exact hts _ (h.here _ e hx)
  · by_cases q : j = I
    · rw [hlk, if_pos q.symm]
      exact .inl (Nat.le_add_left _ _)
    · rw [tis_noE (hno j q)] at h1
      rw [hlk]
      exact (h.file j h1 h2).imp (fun z => Nat.le_trans z (Nat.le_add_right _ _)) id
  · by_cases q : j = I
    · rw [q, hlk, if_pos rfl, hl0]
    · rw [hkd j q] at h1
      rw [hlk, if_neg (fun z => q z.symm)]
      exact h.dir j h1 h2
  · have keep : ∀ x, x ≠ I → (tget T x).kind = 2 → ∃ m', itr (parF T) m' x = 1 := fun x hx hk => by
      rw [hkd x hx] at hk
      obtain ⟨b, hb⟩ := h.root x hk
      exact root_keep h.ok (A := fun y => y = I) (fun y hy => by rw [a.par y hy, hp1]) (fun y hy => by rw [hy, hz0]; rfl) b x hx hb
    by_cases q : j = I
    · subst q
      have hpd : (tget T r.parent).kind = 2 := by rw [hkd _ hne]; exact r1
      obtain ⟨b, hb⟩ := keep r.parent hne hpd
      refine ⟨b + 1, ?_⟩
      show itr (parF T) b (parF T j) = 1
      rw [a.own (by rw [hl1]; exact hl0)]
      exact hb
    · exact keep j q h1
theorem tro_cut {t t1 : List Nd} {O : Int → Prop} (h : Tro t O) {d : Int} {n : Nm} {i : Int} (hc : Cut t t1 d n i) (hk : (tget t i).kind ≠ 2) : Tro t1 (fun j => O j ∨ j = i) := by
  have hkd : ∀ j, (tget t1 j).kind = (tget t j).kind := fun j => kind_noE (hc.head j)
  refine ⟨hc.ok, by rw [hc.len]; exact h.le, by rw [hkd]; exact h.one, ?_, fun j e he => ?_, fun j hj hne => ?_, fun j hj hne => ?_, fun j hj => ?_⟩
  · have h1 := hc.link 1
    rw [h.top] at h1
    omega
  · rw [tis_noE (hc.head e.2)]
    exact h.here j e (hc.mem he)
  · by_cases q : j = i
    · exact .inr (.inr q)
    · have h1 := hc.link j
      rw [if_neg (fun z => q z.symm)] at h1
      rcases h.file j (by rw [← tis_noE (hc.head j)]; exact hj) hne with z | z
      · exact .inl (by omega)
      · exact .inr (.inl z)
  · have h1 := hc.link j
    have h2 := h.dir j (by rw [← hkd]; exact hj) hne
    rw [if_neg (fun q => hk (by rw [q, ← hkd]; exact hj))] at h1
    omega
  · obtain ⟨m, hm⟩ := h.root j (by rw [← hkd]; exact hj)
    refine root_keep h.ok (A := fun x => x = i) (fun x hx => hc.par x hx) (fun a ha => by rw [ha]; exact ok_leaf h.ok hk) m j (fun q => hk ?_) hm
    rw [← q, ← hkd]
    exact hj
theorem tro_drop {t t2 : List Nd} {O : Int → Prop} {i : Int} (h1 : i ≠ 1) (hl : linkT t i = 0) (hd : Drq t t2 i) (le : t.length ≤ 24) (one : (tget t 1).kind = 2) (top : linkT t 1 = 0)
    (here : ∀ (j : Int) (e : En), e ∈ (tget t j).ents → tis t e.2 = true) (file : ∀ j : Int, tis t j = true → j ≠ 1 → j ≠ i → 1 ≤ linkT t j ∨ O j) (dir : ∀ j : Int, (tget t j).kind = 2 → j ≠ 1 → j ≠ i → linkT t j = 1)
    (root : ∀ j : Int, (tget t j).kind = 2 → j ≠ i → ∃ m, itr (parF t) m j = 1) : Tro t2 O := by
  have hk2 : ∀ j, j ≠ i → (tget t2 j).kind = (tget t j).kind := fun j hj => by rw [hd.get j, if_neg hj]
  have hni : ∀ j, (tget t2 j).kind ≠ 0 → j ≠ i := fun j hj q => by
    rw [hd.get j, if_pos q] at hj
    exact hj rfl
  have hp : parF t2 = parF t := funext hd.par
  refine ⟨hd.ok, by rw [hd.len]; exact le, by rw [hk2 1 (fun q => h1 q.symm)]; exact one, by rw [hd.link]; exact top, fun j e hx => ?_, fun j hj hne => ?_, fun j hj hne => ?_, fun j hj => ?_⟩
  · have hj : j ≠ i := fun q => by
      rw [hd.get j, if_pos q] at hx
      cases hx
    rw [hd.get j, if_neg hj] at hx
    have hei : e.2 ≠ i := fun q => link_mem hx q hl
    have h3 := here j e hx
    unfold tis at h3 ⊢
    rw [hk2 _ hei]
    exact h3
  · have hji := hni j (of_decide_eq_true hj)
    rw [hd.link]
    exact file j (by unfold tis at hj ⊢; rw [hk2 j hji] at hj; exact hj) hne hji
  · have hji := hni j (by rw [hj]; decide)
    rw [hd.link]
    exact dir j (by rw [← hk2 j hji]; exact hj) hne hji
  · have hji := hni j (by rw [hj]; decide)
    rw [hp]
    exact root j (by rw [← hk2 j hji]; exact hj) hji
theorem frb_true {t : List Nd} {i : Int} {op : List Int} (h : frB t i op = true) : i ≠ 1 ∧ linkT t i = 0 ∧ ¬ i ∈ op ∧ tis t i = true := by
  unfold frB at h
  simp only [Bool.and_eq_true, decide_eq_true_eq, Bool.not_eq_true'] at h
  refine ⟨h.1, h.2.1, fun q => ?_, h.2.2.2⟩
  have := h.2.2.1
  rw [List.contains_iff_mem.2 q] at this
  cases this
theorem frb_not {t : List Nd} {i : Int} {op : List Int} (h : frB t i op ≠ true) (h1 : i ≠ 1) (hi : tis t i = true) : 1 ≤ linkT t i ∨ i ∈ op := by
  by_cases hl : linkT t i = 0
  · refine .inr (Classical.byContradiction (fun q => h ?_))
    unfold frB
    rw [decide_eq_true h1, decide_eq_true hl, hi]
    have : op.contains i = false := by
      cases hz : op.contains i with
      | false => rfl
      | true => exact absurd (List.contains_iff_mem.1 hz) q
    rw [this]
    rfl
  · exact .inl (by omega)
theorem tro_free {t : List Nd} {op : List Int} {i : Int} (h : Tro t (fun j => j ∈ op ∨ j = i)) (hk : (tget t i).kind ≠ 2) : Tro (frT t i op) (fun j => j ∈ op) := by
  unfold frT
  by_cases hb : frB t i op = true
  · rw [if_pos hb]
    obtain ⟨h1, h2, h3, h4⟩ := frb_true hb
    exact tro_drop h1 h2 (drp_is h.ok h4 (ok_leaf h.ok hk)) h.le h.one h.top h.here (fun j hj hne hji => (h.file j hj hne).imp id (fun z => z.resolve_right hji)) (fun j hj hne _ => h.dir j hj hne) (fun j hj _ => h.root j hj)
  · rw [if_neg hb]
    refine ⟨h.ok, h.le, h.one, h.top, h.here, fun j hj hne => ?_, h.dir, h.root⟩
    rcases h.file j hj hne with z | z | z
    · exact .inl z
    · exact .inr z
    · rw [z] at hj hne ⊢
      exact frb_not hb hne hj
theorem fr_stay (t : List Nd) {op : List Int} (i : Int) {j : Int} (hj : j ∈ op) (hi : tis t i = true → 1 ≤ i ∧ i ≤ t.length) : tget (frT t i op) j = tget t j := by
  unfold frT
  by_cases hb : frB t i op = true
  · rw [if_pos hb]
    obtain ⟨-, -, h3, h4⟩ := frb_true hb
    rw [tget_set (hi h4), if_neg (fun q => h3 (by rw [← q]; exact hj))]
  · rw [if_neg hb]
theorem here_foundO {t : List Nd} {O : Int → Prop} (h : Tro t O) {d i : Int} {n : Nm} (hf : fnd (tget t d).ents n = i) (hi : i ≠ 0) : tis t i = true ∧ i ≠ 1 ∧ (tget t d).ents ≠ [] := by
  obtain ⟨e, he, -, h2⟩ := fnd_some (fnd_mem (l := (tget t d).ents) (n := n) (by rw [hf]; exact hi))
  rw [hf] at h2
  have hl := link_mem he h2.symm
  refine ⟨by rw [h2]; exact h.here d e he, fun q => hl (by rw [q]; exact h.top), fun q => ?_⟩
  rw [q] at he
  cases he
end Go.Proofs.YtnkjaocmfhjnoaaGreat
namespace Go.Proofs.YtnkjaocmfhjnoaaGreat
open Go Go.RowKit
set_option maxRecDepth 100000

theorem ul_zero {t : List Nd} {c : Wh} {R : Fo × Int} (h : ulE t c R = 0) : fnE t c R = 0 ∧ (tget t R.1.node).kind ≠ 2 := by
  unfold ulE at h
  by_cases q : fnE t c R = 0
  · rw [if_neg (fun z => z q)] at h
    refine ⟨q, fun z => ?_⟩
    rw [if_pos z] at h
    exact absurd h (by decide)
  · rw [if_pos q] at h
    exact absurd h q
theorem rd_zero {t : List Nd} {c : Wh} {R : Fo × Int} (h : rdE t c R = 0) : fnE t c R = 0 ∧ (tget t R.1.node).kind = 2 ∧ (tget t R.1.node).ents = [] := by
  unfold rdE at h
  by_cases q : fnE t c R = 0
  · rw [if_neg (fun z => z q)] at h
    by_cases q2 : (tget t R.1.node).kind = 2
    · rw [if_neg (fun z => z q2)] at h
      refine ⟨q, q2, Classical.byContradiction (fun z => ?_)⟩
      rw [if_pos z] at h
      exact absurd h (by decide)
    · rw [if_pos q2] at h
      exact absurd h (by decide)
  · rw [if_pos q] at h
    exact absurd h q
theorem mv_zero {t : List Nd} {c : Wh} {R S : Fo × Int} (h : mvE t c R S = 0) : fnE t c R = 0 ∧ S.2 = 0 ∧ mvY t c R.1.node R.1.dir S.1 = 0 := by
  unfold mvE at h
  by_cases q : fnE t c R = 0
  · rw [if_neg (fun z => z q)] at h
    by_cases q2 : S.2 = 0
    · rw [if_neg (fun z => z q2)] at h
      exact ⟨q, q2, h⟩
    · rw [if_pos q2] at h
      exact absurd h q2
  · rw [if_pos q] at h
    exact absurd h q
end Go.Proofs.YtnkjaocmfhjnoaaGreat
