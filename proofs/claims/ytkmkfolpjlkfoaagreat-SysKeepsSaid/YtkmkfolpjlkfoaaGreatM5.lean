/-
  How a path leads to a node, as plain mathematics. No condition. What is told of a node, as mathematics and in memory; node.Size, node.Names. The conditions are said at each. What modes become where they are set, or behind a write, and who may change owners, as plain mathematics. No condition. What is made at a path, as plain mathematics: why nothing is made, the tree behind it, and what a path without follow leads to then. The conditions are said at each. What is told of a node that was made: its path leads to it, and its mode has nothing of the umask; plain mathematics. The conditions are said at each. Entries that are taken away, and put in, in any table; trees that stay trees; plain mathematics. The conditions are said at each.
-/
import Derived.Test.YtkmkfolpjlkfoaaGreatM1
import Derived.Test.YtkmkfolpjlkfoaaGreatM2
import Derived.Test.YtkmkfolpjlkfoaaGreatM4
import Derived.Test.YtkmkfolpjlkfoaaGreatShelf
namespace Go.Proofs.YtkmkfolpjlkfoaaGreat
open Go Go.RowKit
set_option maxRecDepth 100000

structure Wh where
  u : Int
  g : Int
  gs : List Int
def canN (c : Wh) (n : Nd) (want : Int) : Bool := c.u == 0 || lets want (cls n.mode (clsOf c.u c.g c.gs n.uid n.gid))
def canT (t : List Nd) (c : Wh) (i want : Int) : Bool := tis t i && canN c (tget t i) want
structure Fo where
  dir : Int
  name : Nm
  node : Int
def Fo.zero : Fo := ⟨0, [], 0⟩
def fitE (t : List Nd) (p : Nm) : Int := if p = [] then 2 else if 64 < p.length then 36 else if p.contains 0 = true then 22 else if tis t 1 = false then 2 else 0
def upI (t : List Nd) (i : Int) : Int := if parT t 0 i ≠ 0 then (parT t 0 i : Int) else i
def srE (t : List Nd) (c : Wh) (i : Int) : Int := if (tget t i).kind ≠ 2 then 20 else if canT t c i 1 = false then 13 else 0
def wlk (t : List Nd) (c : Wh) (f : Bool) (k : Nat) (l : List Nm) (i : Int) : Fo × Int :=
  match l with
  | [] => (⟨i, [], i⟩, 0)
  | n :: r =>
    if srE t c i ≠ 0 then (Fo.zero, srE t c i)
    else if n = [46] then wlk t c f k r i
    else if n = [46, 46] then wlk t c f k r (upI t i)
    else if 12 < n.length then (Fo.zero, 36)
    else if fnd (tget t i).ents n = 0 ∧ r ≠ [] then (Fo.zero, 2)
    else if (tget t (fnd (tget t i).ents n)).kind = 3 ∧ (f = true ∨ r ≠ []) then
      match k with
      | 0 => (Fo.zero, 40)
      | k + 1 => wlk t c f k (splitP (tget t (fnd (tget t i).ents n)).target ++ r) (if absP (tget t (fnd (tget t i).ents n)).target = true then 1 else i)
    else if r = [] then (⟨i, n, fnd (tget t i).ents n⟩, 0)
    else wlk t c f k r (fnd (tget t i).ents n)
termination_by (k, l.length)
decreasing_by all_goals first | (apply Prod.Lex.left; omega) | (apply Prod.Lex.right; simp)
def resM (t : List Nd) (c : Wh) (p : Nm) (f : Bool) : Fo × Int := if fitE t p ≠ 0 then (Fo.zero, fitE t p) else wlk t c f 8 (splitP p) 1

theorem wlk_nil (t : List Nd) (c : Wh) (f : Bool) (k : Nat) (i : Int) : wlk t c f k [] i = (⟨i, [], i⟩, 0) := by rw [wlk.eq_def]
theorem wlk_cons (t : List Nd) (c : Wh) (f : Bool) (k : Nat) (n : Nm) (r : List Nm) (i : Int) : wlk t c f k (n :: r) i =
    if srE t c i ≠ 0 then (Fo.zero, srE t c i)
    else if n = [46] then wlk t c f k r i
    else if n = [46, 46] then wlk t c f k r (upI t i)
    else if 12 < n.length then (Fo.zero, 36)
    else if fnd (tget t i).ents n = 0 ∧ r ≠ [] then (Fo.zero, 2)
    else if (tget t (fnd (tget t i).ents n)).kind = 3 ∧ (f = true ∨ r ≠ []) then
      match k with
      | 0 => (Fo.zero, 40)
      | k + 1 => wlk t c f k (splitP (tget t (fnd (tget t i).ents n)).target ++ r) (if absP (tget t (fnd (tget t i).ents n)).target = true then 1 else i)
    else if r = [] then (⟨i, n, fnd (tget t i).ents n⟩, 0)
    else wlk t c f k r (fnd (tget t i).ents n) := by
  rw [wlk.eq_def]
section
variable {t : List Nd} {c : Wh} {f : Bool} {k : Nat} {n : Nm} {r : List Nm} {i : Int}
theorem wlk_sr (h : srE t c i ≠ 0) : wlk t c f k (n :: r) i = (Fo.zero, srE t c i) := by rw [wlk_cons, if_pos h]
theorem wlk_dot (h : srE t c i = 0) (hn : n = [46]) : wlk t c f k (n :: r) i = wlk t c f k r i := by rw [wlk_cons, if_neg (fun q => q h), if_pos hn]
theorem wlk_up (h : srE t c i = 0) (hn : n = [46, 46]) : wlk t c f k (n :: r) i = wlk t c f k r (upI t i) := by
  rw [wlk_cons, if_neg (fun q => q h), if_neg (by rw [hn]; decide), if_pos hn]
theorem wlk_long (h : srE t c i = 0) (h1 : n ≠ [46]) (h2 : n ≠ [46, 46]) (hn : 12 < n.length) : wlk t c f k (n :: r) i = (Fo.zero, 36) := by
  rw [wlk_cons, if_neg (fun q => q h), if_neg h1, if_neg h2, if_pos hn]
variable (h : srE t c i = 0) (h1 : n ≠ [46]) (h2 : n ≠ [46, 46]) (h3 : ¬ 12 < n.length)
include h h1 h2 h3
theorem wlk_gone (hz : fnd (tget t i).ents n = 0) (hr : r ≠ []) : wlk t c f k (n :: r) i = (Fo.zero, 2) := by
  rw [wlk_cons, if_neg (fun q => q h), if_neg h1, if_neg h2, if_neg h3, if_pos ⟨hz, hr⟩]
theorem wlk_loop (hz : ¬ (fnd (tget t i).ents n = 0 ∧ r ≠ [])) (hl : (tget t (fnd (tget t i).ents n)).kind = 3 ∧ (f = true ∨ r ≠ [])) : wlk t c f 0 (n :: r) i = (Fo.zero, 40) := by
  rw [wlk_cons, if_neg (fun q => q h), if_neg h1, if_neg h2, if_neg h3, if_neg hz, if_pos hl]
theorem wlk_link (hz : ¬ (fnd (tget t i).ents n = 0 ∧ r ≠ [])) (hl : (tget t (fnd (tget t i).ents n)).kind = 3 ∧ (f = true ∨ r ≠ [])) :
    wlk t c f (k + 1) (n :: r) i = wlk t c f k (splitP (tget t (fnd (tget t i).ents n)).target ++ r) (if absP (tget t (fnd (tget t i).ents n)).target = true then 1 else i) := by
  rw [wlk_cons, if_neg (fun q => q h), if_neg h1, if_neg h2, if_neg h3, if_neg hz, if_pos hl]
theorem wlk_last (hl : ¬ ((tget t (fnd (tget t i).ents n)).kind = 3 ∧ (f = true ∨ r ≠ []))) (hr : r = []) : wlk t c f k (n :: r) i = (⟨i, n, fnd (tget t i).ents n⟩, 0) := by
  rw [wlk_cons, if_neg (fun q => q h), if_neg h1, if_neg h2, if_neg h3, if_neg (fun q => q.2 hr), if_neg hl, if_pos hr]
theorem wlk_on (hz : fnd (tget t i).ents n ≠ 0) (hl : ¬ ((tget t (fnd (tget t i).ents n)).kind = 3 ∧ (f = true ∨ r ≠ []))) (hr : r ≠ []) : wlk t c f k (n :: r) i = wlk t c f k r (fnd (tget t i).ents n) := by
  rw [wlk_cons, if_neg (fun q => q h), if_neg h1, if_neg h2, if_neg h3, if_neg (fun q => hz q.1), if_neg hl, if_neg hr]
end
theorem spl_len (p : Nm) : (splitP p).length ≤ p.length + 2 := by
  have := nms_len p
  unfold splitP
  split
  · rw [List.length_append]
    simp only [List.length_cons, List.length_nil]
    omega
  · omega
theorem target_len {t : List Nd} (h : okT t) (i : Int) : (tget t i).target.length ≤ 64 := by
  rcases ok_tget h i with h1 | h1
  · rw [h1]
    exact Nat.zero_le _
  · rcases h1.2 with q | q | q
    · rw [q.2.2.1]; exact Nat.zero_le _
    · rw [q.2.2.1]; exact Nat.zero_le _
    · have := q.2.2.2
      unfold fok at this
      simp at this
      omega
theorem kind_tis {t : List Nd} {i : Int} (h : (tget t i).kind = 2) : tis t i = true := by
  unfold tis
  rw [h]
  rfl
theorem sr_zero {t : List Nd} {c : Wh} {i : Int} : srE t c i = 0 ↔ (tget t i).kind = 2 ∧ canT t c i 1 = true := by
  unfold srE
  split
  · rename_i h
    exact ⟨fun q => absurd q (by decide), fun q => absurd q.1 h⟩
  · rename_i h
    have h : (tget t i).kind = 2 := Classical.byContradiction h
    split
    · rename_i h2
      exact ⟨fun q => absurd q (by decide), fun q => by rw [h2] at q; exact absurd q.2 (by decide)⟩
    · rename_i h2
      exact ⟨fun _ => ⟨h, by simpa using h2⟩, fun _ => rfl⟩
end Go.Proofs.YtkmkfolpjlkfoaaGreat
namespace Go.Proofs.YtkmkfolpjlkfoaaGreat
open Go Go.RowKit
set_option maxRecDepth 100000

theorem wlk_step (t : List Nd) (c : Wh) (f : Bool) (k : Nat) (n : Nm) (r : List Nm) (i : Int) :
    (srE t c i ≠ 0 ∧ wlk t c f k (n :: r) i = (Fo.zero, srE t c i)) ∨
    (srE t c i = 0 ∧ n = [46] ∧ wlk t c f k (n :: r) i = wlk t c f k r i) ∨
    (srE t c i = 0 ∧ n = [46, 46] ∧ wlk t c f k (n :: r) i = wlk t c f k r (upI t i)) ∨
    (srE t c i = 0 ∧ (n ≠ [46] ∧ n ≠ [46, 46]) ∧ 12 < n.length ∧ wlk t c f k (n :: r) i = (Fo.zero, 36)) ∨
    (srE t c i = 0 ∧ (n ≠ [46] ∧ n ≠ [46, 46]) ∧ ¬ 12 < n.length ∧
      ((fnd (tget t i).ents n = 0 ∧ r ≠ [] ∧ wlk t c f k (n :: r) i = (Fo.zero, 2)) ∨
       (¬ (fnd (tget t i).ents n = 0 ∧ r ≠ []) ∧ ((tget t (fnd (tget t i).ents n)).kind = 3 ∧ (f = true ∨ r ≠ [])) ∧
          ((k = 0 ∧ wlk t c f k (n :: r) i = (Fo.zero, 40)) ∨
           (∃ j, k = j + 1 ∧ wlk t c f k (n :: r) i = wlk t c f j (splitP (tget t (fnd (tget t i).ents n)).target ++ r) (if absP (tget t (fnd (tget t i).ents n)).target = true then 1 else i)))) ∨
       (¬ ((tget t (fnd (tget t i).ents n)).kind = 3 ∧ (f = true ∨ r ≠ [])) ∧ r = [] ∧ wlk t c f k (n :: r) i = (⟨i, n, fnd (tget t i).ents n⟩, 0)) ∨
       (¬ ((tget t (fnd (tget t i).ents n)).kind = 3 ∧ (f = true ∨ r ≠ [])) ∧ fnd (tget t i).ents n ≠ 0 ∧ r ≠ [] ∧ wlk t c f k (n :: r) i = wlk t c f k r (fnd (tget t i).ents n)))) := by
  by_cases h : srE t c i = 0
  · by_cases h1 : n = [46]
    · exact .inr (.inl ⟨h, h1, wlk_dot h h1⟩)
    by_cases h2 : n = [46, 46]
    · exact .inr (.inr (.inl ⟨h, h2, wlk_up h h2⟩))
    by_cases h3 : 12 < n.length
    · exact .inr (.inr (.inr (.inl ⟨h, ⟨h1, h2⟩, h3, wlk_long h h1 h2 h3⟩)))
    refine .inr (.inr (.inr (.inr ⟨h, ⟨h1, h2⟩, h3, ?_⟩)))
    by_cases h4 : fnd (tget t i).ents n = 0 ∧ r ≠ []
    · exact .inl ⟨h4.1, h4.2, wlk_gone h h1 h2 h3 h4.1 h4.2⟩
    by_cases h5 : (tget t (fnd (tget t i).ents n)).kind = 3 ∧ (f = true ∨ r ≠ [])
    · refine .inr (.inl ⟨h4, h5, ?_⟩)
      cases k with
      | zero => exact .inl ⟨rfl, wlk_loop h h1 h2 h3 h4 h5⟩
      | succ k => exact .inr ⟨k, rfl, wlk_link h h1 h2 h3 h4 h5⟩
    by_cases h6 : r = []
    · exact .inr (.inr (.inl ⟨h5, h6, wlk_last h h1 h2 h3 h5 h6⟩))
    · have h7 : fnd (tget t i).ents n ≠ 0 := fun q => h4 ⟨q, h6⟩
      exact .inr (.inr (.inr ⟨h5, h7, h6, wlk_on h h1 h2 h3 h7 h5 h6⟩))
  · exact .inl ⟨h, wlk_sr h⟩
theorem wlk_ind {P : Nat → List Nm → Int → Prop} (h0 : ∀ k i, P k [] i) (h1 : ∀ k n r i, (∀ j, P k r j) → (∀ k' l j, k' < k → P k' l j) → P k (n :: r) i) : ∀ k l i, P k l i := by
  intro k
  induction k using Nat.strongRecOn with
  | _ k ih =>
    intro l
    induction l with
    | nil => exact h0 k
    | cons n r ih2 => exact fun i => h1 k n r i ih2 (fun k' l j h => ih k' h l j)
theorem dir_par {t : List Nd} (h : Trx t) {i : Int} (hk : (tget t i).kind = 2) : (i = 1 ∧ parF t i = 0) ∨ (1 ≤ parF t i ∧ parF t i < i ∧ (tget t (parF t i)).kind = 2) := by
  have hi := (h.num i).1 (kind_tis hk)
  by_cases q : i = 1
  · refine .inl ⟨q, ?_⟩
    unfold parF
    rw [q, (par_zero t 0).2 h.top]
    rfl
  · refine .inr ?_
    obtain ⟨h3, h5⟩ := h.link i (by omega) hi.2
    have h4 : parT t 0 i ≠ 0 := fun q => by rw [(par_zero t 0).1 q] at h3; omega
    have key : ∀ (t : List Nd) (d : Nat), parT t d i ≠ 0 → ∃ k, ∃ hk : k < t.length, parT t d i = d + k + 1 ∧ cntE (t[k]).ents i ≠ 0 := by
      intro t
      induction t with
      | nil => intro d h; exact absurd rfl h
      | cons n t ih =>
        intro d h
        rw [parT] at h ⊢
        split
        · rename_i q
          rw [if_pos q] at h
          obtain ⟨k, hk, e1, e2⟩ := ih (d + 1) h
          exact ⟨k + 1, by rw [List.length_cons]; omega, by omega, by simpa using e2⟩
        · rename_i q
          exact ⟨0, Nat.succ_pos _, by omega, by simpa using q⟩
    obtain ⟨k, hk', e1, e2⟩ := key t 0 h4
    refine ⟨by unfold parF; omega, (h5 hk).2, ?_⟩
    unfold parF
    rw [e1, show ((0 + k + 1 : Nat) : Int) = (k : Int) + 1 by omega, tget_at hk']
    refine Classical.byContradiction (fun q => e2 ?_)
    rw [ok_ents h.ok (List.getElem_mem hk') q]
    rfl
theorem npF_ne : ∀ (p cur : List UInt8), ∀ n ∈ npF cur p, n ≠ []
  | [], cur, n, h => by
    rw [npF] at h
    split at h
    · cases h
    · rw [List.mem_singleton] at h
      subst h
      assumption
  | c :: r, cur, n, h => by
    rw [npF] at h
    split at h
    · split at h
      · exact npF_ne r _ n h
      · rcases List.mem_cons.1 h with h | h
        · subst h
          assumption
        · exact npF_ne r _ n h
    · exact npF_ne r _ n h
theorem split_ne (p : List UInt8) : ∀ n ∈ splitP p, n ≠ [] := by
  unfold splitP
  split
  · intro n h
    rcases List.mem_append.1 h with h | h
    · exact npF_ne p [] n h
    · rw [List.mem_singleton] at h
      rw [h]
      decide
  · exact npF_ne p []
theorem itr_succ (f : Int → Int) : ∀ (m : Nat) (i : Int), itr f (m + 1) i = f (itr f m i) := fun m i => by
  rw [itr_add f m 1 i]
  rfl

/-! Root, and others. -/
def wh0 : Wh := ⟨0, 0, []⟩
end Go.Proofs.YtkmkfolpjlkfoaaGreat
namespace Go.Proofs.YtkmkfolpjlkfoaaGreat
open Go Go.RowKit
set_option maxRecDepth 100000

theorem up_ne {t : List Nd} {i : Int} (h : i ≠ 0) : upI t i ≠ 0 := by
  unfold upI
  split
  · omega
  · exact h
theorem zero_kind (t : List Nd) : (tget t 0).kind = 0 := by
  rw [tget_out (by omega)]
  rfl
end Go.Proofs.YtkmkfolpjlkfoaaGreat
namespace Go.Proofs.YtkmkfolpjlkfoaaGreat
open Go Go.RowKit
set_option maxRecDepth 100000

structure Sta where
  node : Int
  kind : Int
  mode : Int
  uid : Int
  gid : Int
  links : Int
  size : Int
def Sta.zero : Sta := ⟨0, 0, 0, 0, 0, 0, 0⟩
def staT (t : List Nd) (i : Int) : Sta := if tis t i = true then ⟨i, (tget t i).kind, (tget t i).mode, (tget t i).uid, (tget t i).gid, (linkT t i : Int), sizM (tget t i)⟩ else Sta.zero
def staF (t : List Nd) (R : Fo × Int) : Sta × Int := if R.2 ≠ 0 then (Sta.zero, R.2) else if tis t R.1.node = true then (staT t R.1.node, 0) else (Sta.zero, 2)
def staM (t : List Nd) (c : Wh) (p : Nm) (f : Bool) : Sta × Int := staF t (resM t c p f)
def rdlM (t : List Nd) (c : Wh) (p : Nm) : Nm × Int :=
  if (staM t c p false).2 ≠ 0 then ([], (staM t c p false).2) else if (staM t c p false).1.kind ≠ 3 then ([], 22) else ((tget t (staM t c p false).1.node).target, 0)
def lstM (t : List Nd) (c : Wh) (p : Nm) : List Nm × Int :=
  if (staM t c p true).2 ≠ 0 then ([], (staM t c p true).2) else if (staM t c p true).1.kind ≠ 2 then ([], 20) else if canT t c (staM t c p true).1.node 4 = false then ([], 13) else (nmE (tget t (staM t c p true).1.node).ents, 0)
theorem sta_is {t : List Nd} {i : Int} (h : tis t i = true) : staT t i = ⟨i, (tget t i).kind, (tget t i).mode, (tget t i).uid, (tget t i).gid, (linkT t i : Int), sizM (tget t i)⟩ := if_pos h
theorem sta_not {t : List Nd} {i : Int} (h : tis t i = false) : staT t i = Sta.zero := if_neg (by rw [h]; decide)
theorem sta_node {t : List Nd} {i : Int} (h : tis t i = true) : (staT t i).node = i := by rw [sta_is h]
theorem sta_kind {t : List Nd} {i : Int} (h : tis t i = true) : (staT t i).kind = (tget t i).kind := by rw [sta_is h]
theorem tis_kind0 {t : List Nd} {i : Int} (h : tis t i = true) : (tget t i).kind ≠ 0 := of_decide_eq_true h
theorem staF_zero {t : List Nd} {R : Fo × Int} (h : (staF t R).2 = 0) : R.2 = 0 ∧ tis t R.1.node = true ∧ staF t R = (staT t R.1.node, 0) := by
  unfold staF at h ⊢
  by_cases q : R.2 = 0
  · rw [if_neg (fun r => r q)] at h ⊢
    by_cases q2 : tis t R.1.node = true
    · rw [if_pos q2]
      exact ⟨q, q2, rfl⟩
    · rw [if_neg q2] at h
      exact absurd h (by decide)
  · rw [if_pos q] at h
    exact absurd h q
theorem staF_good {t : List Nd} {R : Fo × Int} (h : R.2 = 0) (hi : tis t R.1.node = true) : staF t R = (staT t R.1.node, 0) := by
  unfold staF
  rw [if_neg (fun q => q h), if_pos hi]
theorem staF_err {t : List Nd} {R : Fo × Int} (h : R.2 ≠ 0) : staF t R = (Sta.zero, R.2) := if_pos h
theorem staM_zero {t : List Nd} {c : Wh} {p : Nm} {f : Bool} (h : (staM t c p f).2 = 0) :
    (resM t c p f).2 = 0 ∧ tis t (staM t c p f).1.node = true ∧ (resM t c p f).1.node = (staM t c p f).1.node ∧ (staM t c p f).1 = staT t (staM t c p f).1.node := by
  obtain ⟨h1, h2, h3⟩ := staF_zero h
  have e1 : (staM t c p f).1 = staT t (resM t c p f).1.node := by unfold staM; rw [h3]
  have e2 : (staM t c p f).1.node = (resM t c p f).1.node := by rw [e1, sta_node h2]
  refine ⟨h1, by rw [e2]; exact h2, e2.symm, by rw [e2]; exact e1⟩
structure Nok (n : Nm) : Prop where
  len : ¬ 12 < n.length
  ne : ¬ n = []
  dot : n ≠ [46]
  dots : n ≠ [46, 46]
  sl : noSl n
  nul : n.contains 0 = false
theorem nok_nok {n : Nm} (hn : nok n = true) : Nok n := by
  have hb : badN n = false ∧ n.length ≤ 12 := by simpa [nok] using hn
  have hb1 := hb.1
  unfold badN at hb1
  simp only [Bool.or_eq_false_iff, beq_eq_false_iff_ne] at hb1
  obtain ⟨⟨⟨⟨h0, h1⟩, h2⟩, h4⟩, h5⟩ := hb1
  refine ⟨by have := hb.2; omega, h0, h1, h2, fun x hx q => ?_, h5⟩
  subst q
  have : n.contains 47 = true := by simpa using hx
  rw [this] at h4
  cases h4
theorem fit_why {t : List Nd} {p : Nm} : fitE t p = 0 ↔ p ≠ [] ∧ ¬ 64 < p.length ∧ p.contains 0 = false ∧ tis t 1 = true := by
  unfold fitE
  by_cases h1 : p = []
  · simp [h1]
  by_cases h2 : 64 < p.length
  · simp [h1, h2]
  cases h3 : p.contains 0
  · cases h4 : tis t 1 <;> simp [h1, h2]
  · simp [h1, h2]

/-! A name below a path. -/
end Go.Proofs.YtkmkfolpjlkfoaaGreat
namespace Go.Proofs.YtkmkfolpjlkfoaaGreat
open Go Go.RowKit
set_option maxRecDepth 100000

attribute [local go_sem] cell_off4 cell_blk4
def stC (s : Sta) : Array Value := #[.int .i64 s.node, .int .i64 s.kind, .int .i64 s.mode, .int .i64 s.uid, .int .i64 s.gid, .int .i64 s.links, .int .i64 s.size]
def stV (s : Sta) : Value := .agg (stC s)
set_option maxHeartbeats 4000000 in
theorem size_any (n : Nd) (vd ve : Value) (w : World) (hd : BytesR w vd n.data) (he : EntsR w ve n.ents) (hf : Few n) :
    Calls Tryz.prog 240 #[nodeV n vd ve] w fun e w' => e = .returned (.int .i64 (sizM n)) ∧ Below w.heap.size w w' := by
  have HB1 := Lib.hid (ba w (.cells (ndC n vd ve) 82))
  obtain ⟨A1, c1, rfl⟩ := bytes_form hd rfl
  obtain ⟨A2, c2, rfl⟩ := ents_form he rfl
  have hdl := hf.data
  have hel := hf.ents
  have htl := hf.target
  have hsz := size_bA n.target
  clear hd he hf
  unfold nodeV
  by_cases k1 : n.kind = 1
  · have hk : (n.kind == 1) = true := by simpa using k1
    have HX := Lib.hid (show sizM n = (n.data.length : Int) by rw [sizM, if_pos k1])
    clear k1
    generalize sizM n = X at HX ⊢
    go_enter Tryz.func240, Tryz.ntmps240
    go_wp2
    go_ret
    exact ⟨ret_int HX.out.symm, HB1.out⟩
  · have hk : (n.kind == 1) = false := by simpa using k1
    by_cases k2 : n.kind = 2
    · have hk2 : (n.kind == 2) = true := by simpa using k2
      have HX := Lib.hid (show sizM n = (n.ents.length : Int) by rw [sizM, if_neg k1, if_pos k2])
      clear k1 k2
      generalize sizM n = X at HX ⊢
      go_enter Tryz.func240, Tryz.ntmps240
      go_wp2
      go_ret
      exact ⟨ret_int HX.out.symm, HB1.out⟩
    · have hk2 : (n.kind == 2) = false := by simpa using k2
      by_cases k3 : n.kind = 3
      · have hk3 : (n.kind == 3) = true := by simpa using k3
        have HX := Lib.hid (show sizM n = ((bA n.target).size : Int) by rw [sizM, if_neg k1, if_neg k2, if_pos k3, hsz])
        clear k1 k2 k3
        generalize sizM n = X at HX ⊢
        go_enter Tryz.func240, Tryz.ntmps240
        go_wp2
        go_ret
        exact ⟨ret_int HX.out.symm, HB1.out⟩
      · have hk3 : (n.kind == 3) = false := by simpa using k3
        have HX := Lib.hid (show sizM n = 0 by rw [sizM, if_neg k1, if_neg k2, if_neg k3])
        clear k1 k2 k3
        generalize sizM n = X at HX ⊢
        go_enter Tryz.func240, Tryz.ntmps240
        go_wp2
        go_ret
        exact ⟨ret_int HX.out.symm, HB1.out⟩
end Go.Proofs.YtkmkfolpjlkfoaaGreat
namespace Go.Proofs.YtkmkfolpjlkfoaaGreat
open Go Go.RowKit

theorem nan_any (a : Nm) (w : World) : Calls Tryz.prog 287 #[.string (bA a)] w fun e w' => e = .returned (.bool false) ∧ w = w' := by
  have q : ((bA a).toList != (bA a).toList) = false := by simp
  go_enter Tryz.func287, Tryz.ntmps287
  go_wp2
  go_ret
  exact ⟨rfl, rfl⟩
theorem nless_any (a b : Nm) (w : World) : Calls Tryz.prog 268 #[.string (bA a), .string (bA b)] w fun e w' => e = .returned (.bool (lss a b)) ∧ w = w' := by
  have HN := Lib.hid (nan_any a w)
  have HX := Lib.hid (show Op.bytesLess (bA a).toList (bA b).toList = lss a b by rw [bA_list, bA_list])
  go_enter Tryz.func268, Tryz.ntmps268
  go_wp2_with fail
  refine HN.out.mono ?_
  rintro e w' ⟨rfl, rfl⟩
  go_wp2
  go_ret
  exact ⟨ret_bool HX.out, rfl⟩
theorem nless_false (a b : Nm) (w : World) (h : lss b a = true) : Calls Tryz.prog 268 #[.string (bA a), .string (bA b)] w fun e w' => e = .returned (.bool false) ∧ w = w' := by
  have := nless_any a b w
  rw [lss_asymm h] at this
  exact this
set_option maxRecDepth 100000 in
set_option maxHeartbeats 4000000 in
theorem isort_any (v : Value) (ns : List Nm) (w : World) (hR : StrsR w v (nmA ns)) (hr : rise ns) (hn : ns.length ≤ 12) :
    Calls Tryz.prog 262 #[v, .int .i64 0, .int .i64 (ns.length : Int)] w fun e w' => e = .returned (.tuple #[]) ∧ Below w.heap.size w w' := by
  obtain ⟨A, c, rfl⟩ := strs_form hR (nmA_len ns)
  have HR := Lib.hid hR
  have HA := Lib.hid (adj_rise hr)
  clear hR hr
  go_enter Tryz.func262, Tryz.ntmps262
  go_wp2
  go_loopg [6] (ns.length - 1) (fun g s6 wr => ∃ k : Nat, s6 = .int .i64 k ∧ 1 ≤ k ∧ g = ns.length - k ∧ Below w.heap.size w wr)
  case atStart => exact ⟨1, rfl, Nat.le_refl _, rfl, Below.refl _ _⟩
  case round =>
    obtain ⟨k, rfl, hk, hg, hbr⟩ := hrel
    have HB := Lib.hid hbr
    clear hbr
    by_cases hlt : k < ns.length
    · have hlt' : (k : Int) < (ns.length : Int) := by omega
      obtain ⟨j, hj⟩ : ∃ j, j = k - 1 := ⟨_, rfl⟩
      obtain ⟨x, hx⟩ : ∃ x, ns[k]? = some x := ⟨_, List.getElem?_eq_getElem hlt⟩
      obtain ⟨y, hy⟩ : ∃ y, ns[j]? = some y := ⟨_, List.getElem?_eq_getElem (by omega)⟩
      obtain ⟨ad, rfl, c0⟩ := strs_get HR.out (nmA_at hx)
      obtain ⟨ad', hA', c1⟩ := strs_get HR.out (nmA_at hy)
      injection hA' with hA'
      subst hA'
      have HL := Lib.hid (HA.out j y x hy (by rw [show j + 1 = k by omega]; exact hx))
      have kj1 : (k : Int) - 1 = (j : Int) := by omega
      have kj2 : IntKind.i64.wrap ((k : Int) - 1) = (j : Int) := by rw [IntKind.wrap_i64]; omega
      have kj5 : IntKind.i64.wrap (j : Int) = (j : Int) := by rw [IntKind.wrap_i64]; omega
      have kj3 : (j : Int) < (ns.length : Int) := by omega
      have kj4 : j < ns.length := by omega
      have hk0 : decide (0 < k) = true := by simp; omega
      have hk1 : (0 : Int) < (k : Int) := by omega
      clear hj hx hy
      go_wp2
      go_loopg [7] 0 (fun _ s7 wq => s7 = .int .i64 (k : Int) ∧ Below w.heap.size w wq)
      case atStart => exact ⟨rfl, HB.out⟩
      case round =>
        obtain ⟨rfl, hbq⟩ := hrel
        have d0 := bc hbq c0
        have d1 := bc hbq c1
        have HBQ := Lib.hid hbq
        clear hbq c0 c1
        go_wp2
        go_quiet ((go_at_call 268; refine Calls.quiet_of_same ((nless_false x y _ HL.out).mono fun _ _ h => ⟨h.1, h.2.symm⟩)))
        go_wp2
        go_roundg (ns.length - (k + 1))
        case measure => omega
        case rel => exact ⟨k + 1, by go_num, by omega, rfl, bdN HBQ.out _⟩
    · have hlt' : ¬ (k : Int) < (ns.length : Int) := by omega
      go_wp2
      go_end0
      exact ⟨rfl, HB.out⟩
set_option maxRecDepth 100000 in
set_option maxHeartbeats 4000000 in
theorem pdq_any (v : Value) (ns : List Nm) (lim : Int) (w : World) (hR : StrsR w v (nmA ns)) (hr : rise ns) (hn : ns.length ≤ 12) :
    Calls Tryz.prog 242 #[v, .int .i64 0, .int .i64 (ns.length : Int), .int .i64 lim] w fun e w' => e = .returned (.tuple #[]) ∧ Below w.heap.size w w' := by
  have HI := Lib.hid (isort_any v ns w hR hr hn)
  obtain ⟨A, c, rfl⟩ := strs_form hR (nmA_len ns)
  have q1 : (ns.length : Int) ≤ 12 := by omega
  clear hR hr
  go_enter Tryz.func242, Tryz.ntmps242
  go_wp2
  go_loopg [1, 2] 0 (fun _ s1 s2 wr => s1 = .int .i64 0 ∧ s2 = .int .i64 (ns.length : Int) ∧ w = wr)
  case atStart => exact ⟨rfl, rfl, rfl⟩
  case round =>
    obtain ⟨rfl, rfl, rfl⟩ := hrel
    go_wp2_with fail
    refine HI.out.mono ?_
    rintro e w2 ⟨rfl, hb2⟩
    have HB2 := Lib.hid hb2
    clear hb2
    go_wp2
    exact bodyPost_ret (v := .tuple #[]) (by simp [results, Tryz.results242, go_sem]) rfl ⟨rfl, HB2.out⟩
theorem nsort_any (v : Value) (ns : List Nm) (w : World) (hR : StrsR w v (nmA ns)) (hr : rise ns) (hn : ns.length ≤ 12) :
    Calls Tryz.prog 209 #[v] w fun e w' => e = .returned (.tuple #[]) ∧ Below w.heap.size w w' := by
  have HP := Lib.hid (fun lim => pdq_any v ns lim w hR hr hn)
  have HL := Lib.hid (Tryz.bits_Len (ns.length : Int) w (by omega) (by omega))
  obtain ⟨A, c, rfl⟩ := strs_form hR (nmA_len ns)
  clear hR hr
  generalize (Lib.bitLen (ns.length : Int).toNat : Int) = B at HL
  go_enter Tryz.func209, Tryz.ntmps209
  go_wp2_with fail
  refine HL.out.mono ?_
  rintro e w2 ⟨rfl, rfl⟩
  go_wp2_with fail
  refine (HP.out _).mono ?_
  rintro e w3 ⟨rfl, hb3⟩
  have HB3 := Lib.hid hb3
  clear hb3
  go_wp2
  go_end0
  exact ⟨rfl, HB3.out⟩
set_option maxRecDepth 100000 in
set_option maxHeartbeats 4000000 in
theorem ncompact_any (v : Value) (ns : List Nm) (w : World) (hR : StrsR w v (nmA ns)) (hr : rise ns) (hn : ns.length ≤ 12) :
    Calls Tryz.prog 210 #[v] w fun e w' => e = .returned v ∧ Below w.heap.size w w' := by
  obtain ⟨A, c, rfl⟩ := strs_form hR (nmA_len ns)
  have HR := Lib.hid hR
  have HA := Lib.hid (adj_rise hr)
  clear hR hr
  by_cases h2 : ns.length < 2
  · have h2' : (ns.length : Int) < 2 := by omega
    clear h2
    go_enter Tryz.func210, Tryz.ntmps210
    go_wp2
    go_ret
    exact ⟨rfl, Below.refl _ _⟩
  · have h2' : ¬ (ns.length : Int) < 2 := by omega
    clear h2
    go_enter Tryz.func210, Tryz.ntmps210
    go_wp2
    go_loopg [3] (ns.length - 1) (fun g s3 wr => ∃ k : Nat, s3 = .int .i64 k ∧ 1 ≤ k ∧ g = ns.length - k ∧ Below w.heap.size w wr)
    case atStart => exact ⟨1, rfl, Nat.le_refl _, rfl, Below.refl _ _⟩
    case round =>
      obtain ⟨k, rfl, hk, hg, hbr⟩ := hrel
      have HB := Lib.hid hbr
      clear hbr
      by_cases hlt : k < ns.length
      · have hlt' : (k : Int) < (ns.length : Int) := by omega
        obtain ⟨j, hj⟩ : ∃ j, j = k - 1 := ⟨_, rfl⟩
        obtain ⟨x, hx⟩ : ∃ x, ns[k]? = some x := ⟨_, List.getElem?_eq_getElem hlt⟩
        obtain ⟨y, hy⟩ : ∃ y, ns[j]? = some y := ⟨_, List.getElem?_eq_getElem (by omega)⟩
        obtain ⟨ad, rfl, c0⟩ := strs_get HR.out (nmA_at hx)
        obtain ⟨ad', hA', c1⟩ := strs_get HR.out (nmA_at hy)
        injection hA' with hA'
        subst hA'
        have hl := HA.out j y x hy (by rw [show j + 1 = k by omega]; exact hx)
        have hne : ((bA x).toList == (bA y).toList) = false := by rw [bA_list, bA_list, beq_eq_false_iff_ne]; exact fun e => lss_ne hl e.symm
        have kj1 : (k : Int) - 1 = (j : Int) := by omega
        have kj2 : IntKind.i64.wrap ((k : Int) - 1) = (j : Int) := by rw [IntKind.wrap_i64]; omega
        have kj5 : IntKind.i64.wrap (j : Int) = (j : Int) := by rw [IntKind.wrap_i64]; omega
        have kj3 : (j : Int) < (ns.length : Int) := by omega
        have kj4 : j < ns.length := by omega
        have d0 := bc HB.out c0
        have d1 := bc HB.out c1
        clear hj hx hy hl c0 c1
        go_wp2
        go_quiet (fail)
        go_wp2
        go_roundg (ns.length - (k + 1))
        case measure => omega
        case rel => exact ⟨k + 1, by go_num, by omega, rfl, bdN HB.out _⟩
      · have hlt' : ¬ (k : Int) < (ns.length : Int) := by omega
        go_wp2
        go_ret
        exact ⟨rfl, HB.out⟩
end Go.Proofs.YtkmkfolpjlkfoaaGreat
namespace Go.Proofs.YtkmkfolpjlkfoaaGreat
open Go Go.RowKit
set_option maxRecDepth 100000

def dropM (t : Bool) (y k : Int) : Int := if t = true then bits .andNot .i64 y k else y
def modeM (u g : Int) (gs : List Int) (kind y m : Int) : Int := dropM (!(u == 0) && !(kind != 1) && !(y == g || gs.contains y)) (m % 4096) 1024
def writM (u kind m : Int) : Int := dropM ((!(u == 0) && !(kind != 1)) && bits .and .i64 (cls m 1) 1 != 0) (dropM (!(u == 0) && !(kind != 1)) (m % 4096) 2048) 1024
def mayOwn (u g : Int) (gs : List Int) (x y tu tg : Int) : Bool := u == 0 || (x == u && (tu == x || decide (tu < 0)) && (tg == y || decide (tg < 0) || (tg == g || gs.contains tg)))
def clr (m b : Int) : Int := m - m / b % 2 * b
theorem clr_at : ∀ a b : Fin 64, bits .andNot .i64 (((a.val * 64 + b.val : Nat) : Int)) 1024 = clr ((a.val * 64 + b.val : Nat) : Int) 1024 ∧ bits .andNot .i64 (((a.val * 64 + b.val : Nat) : Int)) 2048 = clr ((a.val * 64 + b.val : Nat) : Int) 2048 := by decide +kernel
theorem clr_own (m : Int) (h0 : 0 ≤ m) (h1 : m < 4096) : bits .andNot .i64 m 1024 = clr m 1024 ∧ bits .andNot .i64 m 2048 = clr m 2048 := by
  have h := clr_at ⟨(m / 64).toNat, by omega⟩ ⟨(m % 64).toNat, by omega⟩
  simp only [show (((m / 64).toNat * 64 + (m % 64).toNat : Nat) : Int) = m by omega] at h
  exact h
theorem clr_bd (m b : Int) (hb : b = 1024 ∨ b = 2048) (h0 : 0 ≤ m) (h1 : m < 4096) : 0 ≤ clr m b ∧ clr m b < 4096 := by
  unfold clr
  rcases hb with rfl | rfl <;> omega
theorem drop_bd (t : Bool) (y b : Int) (hb : b = 1024 ∨ b = 2048) (h0 : 0 ≤ y) (h1 : y < 4096) : 0 ≤ dropM t y b ∧ dropM t y b < 4096 := by
  have hc := clr_own y h0 h1
  have hd := clr_bd y b hb h0 h1
  unfold dropM
  split
  · rcases hb with rfl | rfl
    · rw [hc.1]; exact hd
    · rw [hc.2]; exact hd
  · exact ⟨h0, h1⟩
theorem mode_bd (u g : Int) (gs : List Int) (kind y m : Int) : 0 ≤ modeM u g gs kind y m ∧ modeM u g gs kind y m < 4096 := drop_bd _ _ _ (.inl rfl) (by omega) (by omega)
theorem writ_bd (u kind m : Int) : 0 ≤ writM u kind m ∧ writM u kind m < 4096 := by
  have h := drop_bd (!(u == 0) && !(kind != 1)) (m % 4096) 2048 (.inr rfl) (by omega) (by omega)
  exact drop_bd _ _ _ (.inl rfl) h.1 h.2
theorem writ_all {u kind m : Int} (h : u = 0 ∨ kind ≠ 1) (h0 : 0 ≤ m) (h1 : m < 4096) : writM u kind m = m := by
  unfold writM dropM
  have e : (!(u == 0) && !(kind != 1)) = false := by rcases h with h | h <;> simp [h]
  rw [e, Bool.false_and, if_neg (by decide), if_neg (by decide)]
  omega
end Go.Proofs.YtkmkfolpjlkfoaaGreat
namespace Go.Proofs.YtkmkfolpjlkfoaaGreat
open Go Go.RowKit
set_option maxRecDepth 100000

def ofB (f : Nat → Bool) : Nat → Nat
  | 0 => 0
  | n + 1 => ofB f n + if f n = true then 2 ^ n else 0
theorem ofB_lt (f : Nat → Bool) (n : Nat) : ofB f n < 2 ^ n := by
  induction n with
  | zero => simp [ofB]
  | succ n ih =>
    rw [ofB, Nat.pow_succ]
    split <;> omega
theorem ofB_bit (f : Nat → Bool) (n i : Nat) : (ofB f n).testBit i = (decide (i < n) && f i) := by
  induction n with
  | zero => simp [ofB]
  | succ n ih =>
    rw [ofB]
    have hl := ofB_lt f n
    by_cases hf : f n = true
    · rw [if_pos hf, Nat.add_comm]
      by_cases hi : i = n
      · subst hi
        rw [Nat.testBit_two_pow_add_eq, ih]
        simp [hf]
      · by_cases hi2 : i < n
        · rw [Nat.testBit_two_pow_add_gt hi2, ih]
          simp [hi2, show i < n + 1 by omega]
        · have h1 : 2 ^ n + ofB f n < 2 ^ i := by
            have h2 : (2 : Nat) ^ (n + 1) ≤ 2 ^ i := Nat.pow_le_pow_right (by decide) (by omega)
            rw [Nat.pow_succ] at h2
            omega
          rw [Nat.testBit_lt_two_pow h1]
          simp [show ¬ i < n + 1 by omega]
    · have hf' : f n = false := by simpa using hf
      rw [if_neg hf, Nat.add_zero, ih]
      by_cases hi : i = n
      · subst hi
        simp [hf']
      · by_cases hi2 : i < n
        · simp [hi2, show i < n + 1 by omega]
        · simp [hi2, show ¬ i < n + 1 by omega]
theorem eq_ofB (x n : Nat) (f : Nat → Bool) (hx : x < 2 ^ n) (h : ∀ i, i < n → x.testBit i = f i) : x = ofB f n := by
  apply Nat.eq_of_testBit_eq
  intro i
  rw [ofB_bit]
  by_cases hi : i < n
  · simp [hi, h i hi]
  · have : (2 : Nat) ^ n ≤ 2 ^ i := Nat.pow_le_pow_right (by decide) (by omega)
    rw [Nat.testBit_lt_two_pow (by omega)]
    simp [hi]
def mskF (mode umask : Int) (i : Nat) : Bool := ((mode % 4096).toNat).testBit i && !((umask % 4096).toNat).testBit i
def mskM (mode umask : Int) : Int := (ofB (mskF mode umask) 9 : Nat)
theorem msk_bd (mode umask : Int) : 0 ≤ mskM mode umask ∧ mskM mode umask ≤ 511 := by
  have := ofB_lt (mskF mode umask) 9
  unfold mskM
  omega
def sgB (n : Nd) : Bool := n.mode.toNat.testBit 10
def plR (t : List Nd) (c : Wh) (F : Fo) (k m : Int) (tg : Nm) : Rw :=
  ⟨k, if sgB (tget t F.dir) = true ∧ k = 2 then m + 1024 else m, c.u, if sgB (tget t F.dir) = true then (tget t F.dir).gid else c.g, F.dir, F.name, [], tg, 0⟩
noncomputable def plE (t : List Nd) (c : Wh) (R : Fo × Int) (k m : Int) (tg : Nm) : Int :=
  if R.2 ≠ 0 then R.2 else if R.1.node ≠ 0 then 17 else if canT t c R.1.dir 3 = false then 13 else if 8 ≤ (tget t R.1.dir).ents.length ∨ usedT t = t.length then 28 else if toB (rightP (plR t c R.1 k m tg).nd) = false then 22 else 0
noncomputable def plT (t : List Nd) (c : Wh) (R : Fo × Int) (k m : Int) (tg : Nm) : List Nd := if plE t c R k m tg = 0 then blT t (plR t c R.1 k m tg) else t
noncomputable def plI (t : List Nd) (c : Wh) (R : Fo × Int) (k m : Int) (tg : Nm) : Int := if plE t c R k m tg = 0 then (freeT t 0 : Int) else 0
theorem pl_zero {t : List Nd} {c : Wh} {R : Fo × Int} {k m : Int} {tg : Nm} : plE t c R k m tg = 0 ↔ R.2 = 0 ∧ R.1.node = 0 ∧ canT t c R.1.dir 3 = true ∧ ((tget t R.1.dir).ents.length < 8 ∧ usedT t ≠ t.length) ∧ rightP (plR t c R.1 k m tg).nd := by
  unfold plE
  by_cases h1 : R.2 = 0
  · rw [if_neg (fun q => q h1)]
    by_cases h2 : R.1.node = 0
    · rw [if_neg (fun q => q h2)]
      cases h3 : canT t c R.1.dir 3 with
      | false => simp
      | true =>
        rw [if_neg (by decide)]
        by_cases h4 : 8 ≤ (tget t R.1.dir).ents.length ∨ usedT t = t.length
        · rw [if_pos h4]
          refine ⟨fun q => absurd q (by decide), fun q => ?_⟩
          rcases h4 with h4 | h4
          · have := q.2.2.2.1.1; omega
          · exact absurd h4 q.2.2.2.1.2
        · rw [if_neg h4]
          by_cases h5 : rightP (plR t c R.1 k m tg).nd
          · rw [toB_true h5, if_neg (by decide)]
            exact ⟨fun _ => ⟨h1, h2, rfl, ⟨by omega, fun q => h4 (.inr q)⟩, h5⟩, fun _ => rfl⟩
          · rw [toB_false h5, if_pos rfl]
            exact ⟨fun q => absurd q (by decide), fun q => absurd q.2.2.2.2 h5⟩
    · rw [if_pos h2]
      exact ⟨fun q => absurd q (by decide), fun q => absurd q.2.1 h2⟩
  · rw [if_pos h1]
    exact ⟨fun q => absurd q h1, fun q => absurd q.1 h1⟩
theorem pl_err {t : List Nd} {c : Wh} {R : Fo × Int} {k m : Int} {tg : Nm} (h : plE t c R k m tg ≠ 0) : plT t c R k m tg = t ∧ plI t c R k m tg = 0 := ⟨if_neg h, if_neg h⟩

/-! Where a path leads, if there is nothing yet. -/
structure Gn (n : Nm) : Prop where
  ne : n ≠ []
  sl : noSl n
  nul : n.contains 0 = false
theorem npF_in : ∀ (p cur : List UInt8), noSl cur → ∀ n ∈ npF cur p, noSl n ∧ ∀ x ∈ n, x ∈ cur ∨ x ∈ p
  | [], cur, hc, n, h => by
    rw [npF] at h
    split at h
    · cases h
    · rw [List.mem_singleton] at h
      subst h
      exact ⟨hc, fun x hx => .inl hx⟩
  | a :: r, cur, hc, n, h => by
    have hn : noSl ([] : List UInt8) := fun x hx => by cases hx
    have up : (noSl n ∧ ∀ x ∈ n, x ∈ ([] : List UInt8) ∨ x ∈ r) → noSl n ∧ ∀ x ∈ n, x ∈ cur ∨ x ∈ a :: r := fun q => ⟨q.1, fun x hx => (q.2 x hx).elim (fun z => by cases z) (fun z => .inr (List.mem_cons_of_mem _ z))⟩
    rw [npF] at h
    split at h
    · split at h
      · exact up (npF_in r [] hn n h)
      · rcases List.mem_cons.1 h with h | h
        · subst h
          exact ⟨hc, fun x hx => .inl hx⟩
        · exact up (npF_in r [] hn n h)
    · rename_i ha
      obtain ⟨h1, h2⟩ := npF_in r (cur ++ [a]) (fun x hx => by
        rcases List.mem_append.1 hx with q | q
        · exact hc x q
        · rw [List.mem_singleton] at q; rw [q]; exact ha) n h
      refine ⟨h1, fun x hx => ?_⟩
      rcases h2 x hx with q | q
      · rcases List.mem_append.1 q with q | q
        · exact .inl q
        · rw [List.mem_singleton] at q; rw [q]; exact .inr (List.mem_cons_self ..)
      · exact .inr (List.mem_cons_of_mem _ q)
theorem split_gn {p : Nm} (h : p.contains 0 = false) : ∀ n ∈ splitP p, Gn n := fun n hn => by
  have hne := split_ne p n hn
  have key : ∀ n ∈ nms p, noSl n ∧ n.contains 0 = false := fun n hn => by
    obtain ⟨h1, h2⟩ := npF_in p [] (fun x hx => by cases hx) n hn
    refine ⟨h1, ?_⟩
    cases hz : n.contains 0 with
    | false => rfl
    | true =>
      have : (0 : UInt8) ∈ n := by simpa using hz
      rcases h2 0 this with q | q
      · cases q
      · have q2 : p.contains 0 = true := by simpa using q
        rw [h] at q2
        cases q2
  unfold splitP at hn
  split at hn
  · rcases List.mem_append.1 hn with q | q
    · exact ⟨hne, (key n q).1, (key n q).2⟩
    · rw [List.mem_singleton] at q
      subst q
      exact ⟨hne, fun x hx => by rw [List.mem_singleton] at hx; rw [hx]; decide, by decide⟩
  · exact ⟨hne, (key n hn).1, (key n hn).2⟩
theorem target_nul {t : List Nd} (h : okT t) {i : Int} (hk : (tget t i).kind = 3) : (tget t i).target.contains 0 = false := by
  rcases ok_tget h i with h1 | h1
  · rw [h1] at hk
    exact absurd hk (by decide)
  · rcases h1.2 with q | q | q
    · have := q.1; omega
    · have := q.1; omega
    · have := q.2.2.2.2
      unfold fok at this
      simp only [Bool.and_eq_true, Bool.not_eq_true'] at this
      exact this.2
theorem wlk_new {t : List Nd} (ho : okT t) {c : Wh} {f : Bool} : ∀ k l i, i ≠ 0 → (∀ n ∈ l, Gn n) → (wlk t c f k l i).2 = 0 → (wlk t c f k l i).1.node = 0 →
    srE t c (wlk t c f k l i).1.dir = 0 ∧ Gn (wlk t c f k l i).1.name ∧ ((wlk t c f k l i).1.name ≠ [46] ∧ (wlk t c f k l i).1.name ≠ [46, 46]) ∧ ¬ 12 < (wlk t c f k l i).1.name.length ∧ fnd (tget t (wlk t c f k l i).1.dir).ents (wlk t c f k l i).1.name = 0 := by
  refine wlk_ind (fun k i hi _ _ hz => ?_) (fun k n r i ih ih2 hi hg => ?_)
  · rw [wlk_nil] at hz
    exact absurd hz hi
  have hgr : ∀ m ∈ r, Gn m := fun m hm => hg m (List.mem_cons_of_mem _ hm)
  rcases wlk_step t c f k n r i with ⟨a, e⟩ | ⟨a, b, e⟩ | ⟨a, b, e⟩ | ⟨a, b, d, e⟩ | ⟨a, b, d, ⟨x, y, e⟩ | ⟨x, y, ⟨z, e⟩ | ⟨j, hj, e⟩⟩ | ⟨x, y, e⟩ | ⟨x, y, z, e⟩⟩ <;> rw [e]
  · exact fun q => absurd q a
  · exact ih _ hi hgr
  · exact ih _ (up_ne hi) hgr
  · exact fun q => absurd q (by decide)
  · exact fun q => absurd q (by decide)
  · exact fun q => absurd q (by decide)
  · subst hj
    refine ih2 j _ _ (Nat.lt_succ_self _) ?_ (fun m hm => ?_)
    · split
      · decide
      · exact hi
    · rcases List.mem_append.1 hm with q | q
      · exact split_gn (target_nul ho y.1) m q
      · exact hgr m q
  · exact fun _ q => ⟨a, hg n (List.mem_cons_self ..), b, d, q⟩
  · exact ih _ y hgr
theorem res_new {t : List Nd} (ho : okT t) {c : Wh} {p : Nm} {f : Bool} (h : (resM t c p f).2 = 0) (hn : (resM t c p f).1.node = 0) :
    (tget t (resM t c p f).1.dir).kind = 2 ∧ nok (resM t c p f).1.name = true ∧ ¬ (resM t c p f).1.name ∈ nmE (tget t (resM t c p f).1.dir).ents := by
  by_cases hf : fitE t p = 0
  · have e : resM t c p f = wlk t c f 8 (splitP p) 1 := by
      unfold resM
      rw [if_neg (fun q => q hf)]
    rw [e] at h hn ⊢
    obtain ⟨h1, h2, h3, h4, h5⟩ := wlk_new ho 8 (splitP p) 1 (by decide) (split_gn (fit_why.1 hf).2.2.1) h hn
    generalize (wlk t c f 8 (splitP p) 1).1 = F at h1 h2 h3 h4 h5 ⊢
    have hk := (sr_zero.1 h1).1
    refine ⟨hk, ?_, fun q => ?_⟩
    · have h47 : F.name.contains 47 = false := by
        cases hz : F.name.contains 47 with
        | false => rfl
        | true =>
          have : (47 : UInt8) ∈ F.name := by simpa using hz
          exact absurd rfl (h2.sl _ this)
      unfold nok badN
      rw [h47, h2.nul]
      simp [h2.ne, h3.1, h3.2]
      omega
    · obtain ⟨e, he, -, h6⟩ := fnd_some q
      rcases (tis_right ho (kind_tis hk)).2 with z | z | z
      · have := z.1; omega
      · have := (z.2.2.2.1 e he).2
        omega
      · have := z.1; omega
  · have e : resM t c p f = (Fo.zero, fitE t p) := by
      unfold resM
      rw [if_pos hf]
    rw [e] at h
    exact absurd h hf

/-! What is there, once it is made. -/
end Go.Proofs.YtkmkfolpjlkfoaaGreat
namespace Go.Proofs.YtkmkfolpjlkfoaaGreat
open Go Go.RowKit
set_option maxRecDepth 100000

section
variable {t t' : List Nd} {D I : Int} {N : Nm} {m : Nd}
theorem fnd_ins_ne {n x : Nm} {i : Int} (hne : n ≠ x) : ∀ l : List En, fnd (ins (x, i) l) n = fnd l n
  | [] => by
    show fnd [(x, i)] n = 0
    unfold fnd
    rw [if_neg (fun q => hne q.symm)]
    rfl
  | e :: l => by
    rw [ins]
    split
    · rw [fnd, if_neg (fun q => hne q.symm)]
    · rw [fnd, fnd, fnd_ins_ne hne l]
end
def mkM (mode umask : Int) : Int := mskM mode umask + if ((mode % 4096).toNat).testBit 9 = true then 512 else 0
theorem mk_bd (mode umask : Int) : 0 ≤ mkM mode umask ∧ mkM mode umask ≤ 1023 := by
  have := msk_bd mode umask
  unfold mkM
  split <;> omega
end Go.Proofs.YtkmkfolpjlkfoaaGreat
namespace Go.Proofs.YtkmkfolpjlkfoaaGreat
open Go Go.RowKit
set_option maxRecDepth 100000

/-! Lists of entries. -/
theorem cnt_del {n : Nm} {j : Int} : ∀ {l : List En}, n ∈ nmE l → cntE (del l n) j + (if fnd l n = j then 1 else 0) = cntE l j
  | [], h => by cases h
  | e :: l, h => by
    rw [del, fnd]
    split
    · unfold cntE
      rw [List.countP_cons]
      simp only [decide_eq_true_eq]
    · rename_i q
      have h2 : n ∈ nmE l := by
        rcases List.mem_cons.1 h with h | h
        · exact absurd h.symm q
        · exact h
      have ih := cnt_del (j := j) h2
      unfold cntE at ih ⊢
      rw [List.countP_cons, List.countP_cons]
      omega
theorem fnd_del_ne {n x : Nm} (hne : n ≠ x) : ∀ l : List En, fnd (del l x) n = fnd l n
  | [] => rfl
  | e :: l => by
    rw [del]
    split
    · rename_i q
      rw [fnd, if_neg (fun z => hne (by rw [← z, q]))]
    · rw [fnd, fnd, fnd_del_ne hne l]
theorem fnd_del {l : List En} {n : Nm} (h : rise (nmE l)) : fnd (del l n) n = 0 := fnd_none (del_gone h)
theorem fnd_mem {l : List En} {n : Nm} (h : fnd l n ≠ 0) : n ∈ nmE l := Classical.byContradiction (fun q => h (fnd_none q))
theorem del_mem {l : List En} {n : Nm} {e : En} (h : e ∈ del l n) : e ∈ l := (del_sub l n).subset h
theorem ok_ris {t : List Nd} (h : okT t) (i : Int) : rise (nmE (tget t i).ents) := by
  rcases ok_tget h i with q | q
  · rw [q]; exact List.Pairwise.nil
  · rcases q.2 with q | q | q
    · rw [q.2.1]; exact List.Pairwise.nil
    · exact q.2.2.2.2.1
    · rw [q.2.2.1]; exact List.Pairwise.nil
theorem ok_eight {t : List Nd} (h : okT t) (i : Int) : (tget t i).ents.length ≤ 8 := by
  rcases ok_tget h i with q | q
  · rw [q]; exact Nat.zero_le _
  · rcases q.2 with q | q | q
    · rw [q.2.1]; exact Nat.zero_le _
    · exact q.2.2.2.2.2
    · rw [q.2.2.1]; exact Nat.zero_le _
theorem ok_pos {t : List Nd} (h : okT t) {i : Int} {e : En} (he : e ∈ (tget t i).ents) : 1 ≤ e.2 := by
  rcases ok_tget h i with q | q
  · rw [q] at he; cases he
  · rcases q.2 with q | q | q
    · rw [q.2.1] at he; cases he
    · exact (q.2.2.2.1 e he).2
    · rw [q.2.2.1] at he; cases he
theorem ok_fnd {t : List Nd} (h : okT t) {i : Int} {n : Nm} (hz : fnd (tget t i).ents n ≠ 0) : 1 ≤ fnd (tget t i).ents n := by
  obtain ⟨e, he, -, h2⟩ := fnd_some (fnd_mem hz)
  rw [h2]
  exact ok_pos h he
theorem ok_leaf {t : List Nd} (h : okT t) {i : Int} (hk : (tget t i).kind ≠ 2) : (tget t i).ents = [] := by
  rcases ok_tget h i with q | q
  · rw [q]; rfl
  · exact right_other q hk
theorem par_dir {t : List Nd} (h : okT t) {j : Int} (hp : parF t j ≠ 0) : (tget t (parF t j)).kind = 2 ∧ cntE (tget t (parF t j)).ents j ≠ 0 := by
  have key : ∀ (t : List Nd) (d : Nat), parT t d j ≠ 0 → ∃ k, ∃ hk : k < t.length, parT t d j = d + k + 1 ∧ cntE (t[k]).ents j ≠ 0 := by
    intro t
    induction t with
    | nil => intro d h; exact absurd rfl h
    | cons n t ih =>
      intro d h
      rw [parT] at h ⊢
      split
      · rename_i q
        rw [if_pos q] at h
        obtain ⟨k, hk, e1, e2⟩ := ih (d + 1) h
        exact ⟨k + 1, by rw [List.length_cons]; omega, by omega, by simpa using e2⟩
      · rename_i q
        exact ⟨0, Nat.succ_pos _, by omega, by simpa using q⟩
  obtain ⟨k, hk, e1, e2⟩ := key t 0 (fun q => hp (by unfold parF; rw [q]; rfl))
  have e3 : parF t j = (k : Int) + 1 := by unfold parF; omega
  rw [e3, tget_at hk]
  refine ⟨Classical.byContradiction (fun q => e2 ?_), e2⟩
  rw [ok_ents h (List.getElem_mem hk) q]
  rfl
theorem par_none {t : List Nd} {j : Int} (h : linkT t j = 0) : parF t j = 0 := by unfold parF; rw [(par_zero t 0).2 h]; rfl

/-! The three changes. -/
structure Cut (t t1 : List Nd) (d : Int) (n : Nm) (i : Int) : Prop where
  get : ∀ j, tget t1 j = if j = d then { tget t d with ents := del (tget t d).ents n } else tget t j
  link : ∀ j, linkT t1 j + (if i = j then 1 else 0) = linkT t j
  par : ∀ j, j ≠ i → parF t1 j = parF t j
  len : t1.length = t.length
  ok : okT t1
  used : usedT t1 = usedT t
def cutT (t : List Nd) (d : Int) (n : Nm) : List Nd := setT t d (outM (tget t d) n)
theorem cut_is {t : List Nd} (ho : okT t) {d : Int} {n : Nm} {i : Int} (hk : (tget t d).kind = 2) (hn : fnd (tget t d).ents n = i) (hi : i ≠ 0) : Cut t (cutT t d n) d n i := by
  have hm : n ∈ nmE (tget t d).ents := fnd_mem (by rw [hn]; exact hi)
  have he : outE (tget t d) n = 0 := by unfold outE; rw [if_neg (fun q => q hk), if_pos hm]
  have hM : outM (tget t d) n = { tget t d with ents := del (tget t d).ents n } := if_pos he
  have hti := kind_tis hk
  have hin := tis_in hti
  have hr := (right_out (tis_right ho hti) he).1
  have hu := used_put hti hr
  rw [hM] at hr hu
  unfold cutT
  rw [hM]
  refine ⟨fun j => tget_set hin, fun j => ?_, fun j hj => ?_, len_setT .., ok_setT ho _ (.inr hr), hu⟩
  · have h1 := link_set hin { tget t d with ents := del (tget t d).ents n } j
    have h2 := cnt_del (j := j) hm
    rw [hn] at h2
    have h3 : cntE ({ tget t d with ents := del (tget t d).ents n } : Nd).ents j = cntE (del (tget t d).ents n) j := rfl
    rw [h3] at h1
    omega
  · unfold parF
    rw [par_set hin (j := j) (n := { tget t d with ents := del (tget t d).ents n }) ?_]
    have h2 := cnt_del (j := j) hm
    rw [hn, if_neg (fun q => hj q.symm)] at h2
    show cntE (del (tget t d).ents n) j = 0 ↔ _
    rw [← h2]
    exact Iff.rfl
structure Add (t t1 : List Nd) (d : Int) (n : Nm) (i : Int) : Prop where
  get : ∀ j, tget t1 j = if j = d then { tget t d with ents := ins (n, i) (tget t d).ents } else tget t j
  link : ∀ j, linkT t1 j = linkT t j + (if i = j then 1 else 0)
  par : ∀ j, j ≠ i → parF t1 j = parF t j
  own : linkT t i = 0 → parF t1 i = d
  len : t1.length = t.length
  ok : okT t1
  used : usedT t1 = usedT t
def addT (t : List Nd) (d : Int) (n : Nm) (i : Int) : List Nd := setT t d (withM (tget t d) n i)
theorem add_is {t : List Nd} (ho : okT t) {d : Int} {n : Nm} {i : Int} (he : withE (tget t d) n i = 0) : Add t (addT t d n i) d n i := by
  have hM := withM_zero he
  have hti := kind_tis (withE_zero.1 he).1
  have hin := tis_in hti
  have hr := (right_with (tis_right ho hti) he).1
  have hu := used_put hti hr
  rw [hM] at hr hu
  unfold addT
  rw [hM]
  have hget : ∀ j, tget (setT t d { tget t d with ents := ins (n, i) (tget t d).ents }) j = if j = d then { tget t d with ents := ins (n, i) (tget t d).ents } else tget t j := fun j => tget_set hin
  refine ⟨hget, fun j => ?_, fun j hj => ?_, fun hl => ?_, len_setT .., ok_setT ho _ (.inr hr), hu⟩
  · obtain ⟨M, hMM⟩ : ∃ M : Nd, ({ tget t d with ents := ins (n, i) (tget t d).ents } : Nd) = M := ⟨_, rfl⟩
    have hME : M.ents = ins (n, i) (tget t d).ents := by rw [← hMM]
    rw [hMM]
    have h1 := link_set hin M j
    have h5 : cntE M.ents j = cntE (tget t d).ents j + (if i = j then 1 else 0) := by rw [hME]; exact cnt_ins (n, i) _ j
    omega
  · unfold parF
    rw [par_set hin (j := j) (n := { tget t d with ents := ins (n, i) (tget t d).ents }) ?_]
    show cntE (ins (n, i) (tget t d).ents) j = 0 ↔ _
    rw [cnt_ins, if_neg (fun q => hj q.symm)]
    exact Iff.rfl
  · have hk : (d - 1).toNat < (setT t d { tget t d with ents := ins (n, i) (tget t d).ents }).length := by rw [len_setT]; omega
    have he1 : d = (((d - 1).toNat : Nat) : Int) + 1 := by omega
    have hp := par_one (j := i) (setT t d { tget t d with ents := ins (n, i) (tget t d).ents }) 0 (d - 1).toNat ⟨hk, by
      rw [← tget_at hk, ← he1, hget, if_pos rfl]
      show cntE (ins (n, i) (tget t d).ents) i ≠ 0
      rw [cnt_ins, if_pos rfl]
      omega⟩ (fun m hm hmk => by
      rw [← tget_at hm, hget, if_neg (by omega)]
      exact link_zero.1 hl _)
    unfold parF
    rw [hp]
    omega
structure Drq (t t1 : List Nd) (i : Int) : Prop where
  get : ∀ j, tget t1 j = if j = i then Nd.zero else tget t j
  link : ∀ j, linkT t1 j = linkT t j
  par : ∀ j, parF t1 j = parF t j
  len : t1.length = t.length
  ok : okT t1
  used : usedT t1 + 1 = usedT t
theorem drp_is {t : List Nd} (ho : okT t) {i : Int} (hi : tis t i = true) (he : (tget t i).ents = []) : Drq t (setT t i Nd.zero) i := by
  have hin := tis_in hi
  refine ⟨fun j => tget_set hin, fun j => ?_, fun j => ?_, len_setT .., ok_setT ho _ (.inl rfl), used_drop hi⟩
  · have h1 := link_set hin Nd.zero j
    rw [he] at h1
    exact h1
  · unfold parF
    rw [par_set hin (j := j) (n := Nd.zero) (by rw [he]; exact Iff.rfl)]

/-! Trees. -/
structure Tre (t : List Nd) : Prop where
  ok : okT t
  le : t.length ≤ 24
  one : (tget t 1).kind = 2
  top : linkT t 1 = 0
  here : ∀ (i : Int) (e : En), e ∈ (tget t i).ents → tis t e.2 = true
  file : ∀ i : Int, tis t i = true → i ≠ 1 → 1 ≤ linkT t i
  dir : ∀ i : Int, (tget t i).kind = 2 → i ≠ 1 → linkT t i = 1
  root : ∀ i : Int, (tget t i).kind = 2 → ∃ m, itr (parF t) m i = 1
theorem tre_trx {t : List Nd} (h : Trx t) : Tre t := by
  have hd : ∀ (n : Nat) (i : Int), i ≤ n → (tget t i).kind = 2 → ∃ m, itr (parF t) m i = 1 := by
    intro n
    induction n with
    | zero => intro i h1 h2; have := tis_in (kind_tis h2); omega
    | succ n ih =>
      intro i h1 h2
      rcases dir_par h h2 with ⟨q, -⟩ | ⟨q1, q2, q3⟩
      · exact ⟨0, q⟩
      · obtain ⟨m, hm⟩ := ih (parF t i) (by omega) q3
        exact ⟨m + 1, hm⟩
  refine ⟨h.ok, h.le, h.one, h.top, fun i e he => (h.num _).2 (h.here i e he), fun i hi hne => ?_, fun i hk hne => ?_, fun i hk => ?_⟩
  · have hn := (h.num i).1 hi
    exact (h.link i (by omega) hn.2).1
  · have hn := (h.num i).1 (kind_tis hk)
    exact ((h.link i (by omega) hn.2).2 hk).1
  · have hn := tis_in (kind_tis hk)
    exact hd i.toNat i (by omega) hk
theorem root_keep {t t' : List Nd} (ho : okT t) {A : Int → Prop} (hp : ∀ j, ¬ A j → parF t' j = parF t j) (he : ∀ a, A a → (tget t a).ents = []) : ∀ (m : Nat) (j : Int), ¬ A j → itr (parF t) m j = 1 → ∃ m', itr (parF t') m' j = 1
  | 0, j, _, h => ⟨0, h⟩
  | m + 1, j, hj, h => by
    by_cases hz : parF t j = 0
    · have h2 : itr (parF t) m (parF t j) = 1 := h
      rw [hz, itr_zero (parF_zero ho)] at h2
      exact absurd h2 (by decide)
    · have hA : ¬ A (parF t j) := fun q => by
        have h3 := (par_dir ho hz).2
        rw [he _ q] at h3
        exact h3 rfl
      obtain ⟨m', h4⟩ := root_keep ho hp he m (parF t j) hA h
      refine ⟨m' + 1, ?_⟩
      show itr (parF t') m' (parF t' j) = 1
      rw [hp j hj]
      exact h4
theorem root_off {t t' : List Nd} {A : Int → Prop} (hp : ∀ j, ¬ A j → parF t' j = parF t j) : ∀ (m : Nat) (j : Int), (∀ a, a < m → ¬ A (itr (parF t) a j)) → itr (parF t) m j = 1 → itr (parF t') m j = 1
  | 0, j, _, h => h
  | m + 1, j, hj, h => by
    show itr (parF t') m (parF t' j) = 1
    rw [hp j (hj 0 (Nat.succ_pos _))]
    exact root_off hp m (parF t j) (fun a ha => hj (a + 1) (by omega)) h
theorem root_move {t t' : List Nd} (ho : okT t) {i k D : Int} (hp : ∀ j, j ≠ i → j ≠ k → parF t' j = parF t j) (hk : (tget t k).ents = []) (hi : parF t' i = D) (hD : ∃ m, itr (parF t') m D = 1) : ∀ (m : Nat) (j : Int), j ≠ k → itr (parF t) m j = 1 → ∃ m', itr (parF t') m' j = 1
  | 0, j, _, h => ⟨0, h⟩
  | m + 1, j, hj, h => by
    by_cases hij : j = i
    · subst hij
      obtain ⟨a, ha⟩ := hD
      refine ⟨a + 1, ?_⟩
      show itr (parF t') a (parF t' j) = 1
      rw [hi]
      exact ha
    by_cases hz : parF t j = 0
    · have h2 : itr (parF t) m (parF t j) = 1 := h
      rw [hz, itr_zero (parF_zero ho)] at h2
      exact absurd h2 (by decide)
    · have hA : parF t j ≠ k := fun q => by
        have h3 := (par_dir ho hz).2
        rw [q, hk] at h3
        exact h3 rfl
      obtain ⟨m', h4⟩ := root_move ho hp hk hi hD m (parF t j) hA h
      refine ⟨m' + 1, ?_⟩
      show itr (parF t') m' (parF t' j) = 1
      rw [hp j hij hj]
      exact h4
end Go.Proofs.YtkmkfolpjlkfoaaGreat
