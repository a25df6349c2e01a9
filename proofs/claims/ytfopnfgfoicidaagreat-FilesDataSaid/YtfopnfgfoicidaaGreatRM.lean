/-
  How a path leads to a node, as plain mathematics. No condition.
-/
import Derived.Test.YtfopnfgfoicidaaGreatPA
import Derived.Test.YtfopnfgfoicidaaGreatCC
import Derived.Test.YtfopnfgfoicidaaGreatBM
namespace Go.Proofs.YtfopnfgfoicidaaGreat
open Go Go.RowKit
set_option maxRecDepth 100000

/-- Who asks. -/
structure Wh where
  u : Int
  g : Int
  gs : List Int
/-- May one do to a node what some bits let? -/
def canN (c : Wh) (n : Nd) (want : Int) : Bool := c.u == 0 || lets want (cls n.mode (clsOf c.u c.g c.gs n.uid n.gid))
def canT (t : List Nd) (c : Wh) (i want : Int) : Bool := tis t i && canN c (tget t i) want
/-- Where a path leads. -/
structure Fo where
  dir : Int
  name : Nm
  node : Int
def Fo.zero : Fo := ⟨0, [], 0⟩
/-- What is wrong with a path by itself. -/
def fitE (t : List Nd) (p : Nm) : Int := if p = [] then 2 else if 64 < p.length then 36 else if p.contains 0 = true then 22 else if tis t 1 = false then 2 else 0
def upI (t : List Nd) (i : Int) : Int := if parT t 0 i ≠ 0 then (parT t 0 i : Int) else i
/-- Why a directory may not be searched. -/
def srE (t : List Nd) (c : Wh) (i : Int) : Int := if (tget t i).kind ≠ 2 then 20 else if canT t c i 1 = false then 13 else 0
/-- Names are taken, one behind the other; k links more may be followed. -/
def wlk (t : List Nd) (c : Wh) (f : Bool) (k : Nat) (l : List Nm) (i : Int) : Fo × Int :=
  match l with
  | [] => (⟨i, [], i⟩, 0)
  | n :: r =>
    if srE t c i ≠ 0 then (Fo.zero, srE t c i)
    else if n = [46] then wlk t c f k r i
    else if n = [46, 46] then wlk t c f k r (upI t i)
    else if 12 < n.length then (Fo.zero, 36)
    else if fnd (tget t i).ents n = 0 ∧ r ≠ [] then (Fo.zero, 2)
    else if (tget t (fnd (tget t i).ents n)).kind = 3 ∧ (f = true ∨ r ≠ []) then
      match k with
      | 0 => (Fo.zero, 40)
      | k + 1 => wlk t c f k (splitP (tget t (fnd (tget t i).ents n)).target ++ r) (if absP (tget t (fnd (tget t i).ents n)).target = true then 1 else i)
    else if r = [] then (⟨i, n, fnd (tget t i).ents n⟩, 0)
    else wlk t c f k r (fnd (tget t i).ents n)
termination_by (k, l.length)
decreasing_by all_goals first | (apply Prod.Lex.left; omega) | (apply Prod.Lex.right; simp)
def resM (t : List Nd) (c : Wh) (p : Nm) (f : Bool) : Fo × Int := if fitE t p ≠ 0 then (Fo.zero, fitE t p) else wlk t c f 8 (splitP p) 1

theorem wlk_nil (t : List Nd) (c : Wh) (f : Bool) (k : Nat) (i : Int) : wlk t c f k [] i = (⟨i, [], i⟩, 0) := by rw [wlk.eq_def]
theorem wlk_cons (t : List Nd) (c : Wh) (f : Bool) (k : Nat) (n : Nm) (r : List Nm) (i : Int) : wlk t c f k (n :: r) i =
    if srE t c i ≠ 0 then (Fo.zero, srE t c i)
    else if n = [46] then wlk t c f k r i
    else if n = [46, 46] then wlk t c f k r (upI t i)
    else if 12 < n.length then (Fo.zero, 36)
    else if fnd (tget t i).ents n = 0 ∧ r ≠ [] then (Fo.zero, 2)
    else if (tget t (fnd (tget t i).ents n)).kind = 3 ∧ (f = true ∨ r ≠ []) then
      match k with
      | 0 => (Fo.zero, 40)
      | k + 1 => wlk t c f k (splitP (tget t (fnd (tget t i).ents n)).target ++ r) (if absP (tget t (fnd (tget t i).ents n)).target = true then 1 else i)
    else if r = [] then (⟨i, n, fnd (tget t i).ents n⟩, 0)
    else wlk t c f k r (fnd (tget t i).ents n) := by
  rw [wlk.eq_def]
section
variable {t : List Nd} {c : Wh} {f : Bool} {k : Nat} {n : Nm} {r : List Nm} {i : Int}
theorem wlk_sr (h : srE t c i ≠ 0) : wlk t c f k (n :: r) i = (Fo.zero, srE t c i) := by rw [wlk_cons, if_pos h]
theorem wlk_dot (h : srE t c i = 0) (hn : n = [46]) : wlk t c f k (n :: r) i = wlk t c f k r i := by rw [wlk_cons, if_neg (fun q => q h), if_pos hn]
theorem wlk_up (h : srE t c i = 0) (hn : n = [46, 46]) : wlk t c f k (n :: r) i = wlk t c f k r (upI t i) := by
  rw [wlk_cons, if_neg (fun q => q h), if_neg (by rw [hn]; decide), if_pos hn]
theorem wlk_long (h : srE t c i = 0) (h1 : n ≠ [46]) (h2 : n ≠ [46, 46]) (hn : 12 < n.length) : wlk t c f k (n :: r) i = (Fo.zero, 36) := by
  rw [wlk_cons, if_neg (fun q => q h), if_neg h1, if_neg h2, if_pos hn]
variable (h : srE t c i = 0) (h1 : n ≠ [46]) (h2 : n ≠ [46, 46]) (h3 : ¬ 12 < n.length)
include h h1 h2 h3
theorem wlk_gone (hz : fnd (tget t i).ents n = 0) (hr : r ≠ []) : wlk t c f k (n :: r) i = (Fo.zero, 2) := by
  rw [wlk_cons, if_neg (fun q => q h), if_neg h1, if_neg h2, if_neg h3, if_pos ⟨hz, hr⟩]
theorem wlk_loop (hz : ¬ (fnd (tget t i).ents n = 0 ∧ r ≠ [])) (hl : (tget t (fnd (tget t i).ents n)).kind = 3 ∧ (f = true ∨ r ≠ [])) : wlk t c f 0 (n :: r) i = (Fo.zero, 40) := by
  rw [wlk_cons, if_neg (fun q => q h), if_neg h1, if_neg h2, if_neg h3, if_neg hz, if_pos hl]
theorem wlk_link (hz : ¬ (fnd (tget t i).ents n = 0 ∧ r ≠ [])) (hl : (tget t (fnd (tget t i).ents n)).kind = 3 ∧ (f = true ∨ r ≠ [])) :
    wlk t c f (k + 1) (n :: r) i = wlk t c f k (splitP (tget t (fnd (tget t i).ents n)).target ++ r) (if absP (tget t (fnd (tget t i).ents n)).target = true then 1 else i) := by
  rw [wlk_cons, if_neg (fun q => q h), if_neg h1, if_neg h2, if_neg h3, if_neg hz, if_pos hl]
theorem wlk_last (hl : ¬ ((tget t (fnd (tget t i).ents n)).kind = 3 ∧ (f = true ∨ r ≠ []))) (hr : r = []) : wlk t c f k (n :: r) i = (⟨i, n, fnd (tget t i).ents n⟩, 0) := by
  rw [wlk_cons, if_neg (fun q => q h), if_neg h1, if_neg h2, if_neg h3, if_neg (fun q => q.2 hr), if_neg hl, if_pos hr]
theorem wlk_on (hz : fnd (tget t i).ents n ≠ 0) (hl : ¬ ((tget t (fnd (tget t i).ents n)).kind = 3 ∧ (f = true ∨ r ≠ []))) (hr : r ≠ []) : wlk t c f k (n :: r) i = wlk t c f k r (fnd (tget t i).ents n) := by
  rw [wlk_cons, if_neg (fun q => q h), if_neg h1, if_neg h2, if_neg h3, if_neg (fun q => hz q.1), if_neg hl, if_neg hr]
end
theorem spl_len (p : Nm) : (splitP p).length ≤ p.length + 2 := by
  have := nms_len p
  unfold splitP
  split
  · rw [List.length_append]
    simp only [List.length_cons, List.length_nil]
    omega
  · omega
theorem target_len {t : List Nd} (h : okT t) (i : Int) : (tget t i).target.length ≤ 64 := by
  rcases ok_tget h i with h1 | h1
  · rw [h1]
    exact Nat.zero_le _
  · rcases h1.2 with q | q | q
    · rw [q.2.2.1]; exact Nat.zero_le _
    · rw [q.2.2.1]; exact Nat.zero_le _
    · have := q.2.2.2
      unfold fok at this
      simp at this
      omega
theorem kind_tis {t : List Nd} {i : Int} (h : (tget t i).kind = 2) : tis t i = true := by
  unfold tis
  rw [h]
  rfl
theorem sr_zero {t : List Nd} {c : Wh} {i : Int} : srE t c i = 0 ↔ (tget t i).kind = 2 ∧ canT t c i 1 = true := by
  unfold srE
  split
  · rename_i h
    exact ⟨fun q => absurd q (by decide), fun q => absurd q.1 h⟩
  · rename_i h
    have h : (tget t i).kind = 2 := Classical.byContradiction h
    split
    · rename_i h2
      exact ⟨fun q => absurd q (by decide), fun q => by rw [h2] at q; exact absurd q.2 (by decide)⟩
    · rename_i h2
      exact ⟨fun _ => ⟨h, by simpa using h2⟩, fun _ => rfl⟩
end Go.Proofs.YtfopnfgfoicidaaGreat
namespace Go.Proofs.YtfopnfgfoicidaaGreat
open Go Go.RowKit
set_option maxRecDepth 100000

/-- One name that is taken: the eight ways. -/
theorem wlk_step (t : List Nd) (c : Wh) (f : Bool) (k : Nat) (n : Nm) (r : List Nm) (i : Int) :
    (srE t c i ≠ 0 ∧ wlk t c f k (n :: r) i = (Fo.zero, srE t c i)) ∨
    (srE t c i = 0 ∧ n = [46] ∧ wlk t c f k (n :: r) i = wlk t c f k r i) ∨
    (srE t c i = 0 ∧ n = [46, 46] ∧ wlk t c f k (n :: r) i = wlk t c f k r (upI t i)) ∨
    (srE t c i = 0 ∧ (n ≠ [46] ∧ n ≠ [46, 46]) ∧ 12 < n.length ∧ wlk t c f k (n :: r) i = (Fo.zero, 36)) ∨
    (srE t c i = 0 ∧ (n ≠ [46] ∧ n ≠ [46, 46]) ∧ ¬ 12 < n.length ∧
      ((fnd (tget t i).ents n = 0 ∧ r ≠ [] ∧ wlk t c f k (n :: r) i = (Fo.zero, 2)) ∨
       (¬ (fnd (tget t i).ents n = 0 ∧ r ≠ []) ∧ ((tget t (fnd (tget t i).ents n)).kind = 3 ∧ (f = true ∨ r ≠ [])) ∧
          ((k = 0 ∧ wlk t c f k (n :: r) i = (Fo.zero, 40)) ∨
           (∃ j, k = j + 1 ∧ wlk t c f k (n :: r) i = wlk t c f j (splitP (tget t (fnd (tget t i).ents n)).target ++ r) (if absP (tget t (fnd (tget t i).ents n)).target = true then 1 else i)))) ∨
       (¬ ((tget t (fnd (tget t i).ents n)).kind = 3 ∧ (f = true ∨ r ≠ [])) ∧ r = [] ∧ wlk t c f k (n :: r) i = (⟨i, n, fnd (tget t i).ents n⟩, 0)) ∨
       (¬ ((tget t (fnd (tget t i).ents n)).kind = 3 ∧ (f = true ∨ r ≠ [])) ∧ fnd (tget t i).ents n ≠ 0 ∧ r ≠ [] ∧ wlk t c f k (n :: r) i = wlk t c f k r (fnd (tget t i).ents n)))) := by
  by_cases h : srE t c i = 0
  · by_cases h1 : n = [46]
    · exact .inr (.inl ⟨h, h1, wlk_dot h h1⟩)
    by_cases h2 : n = [46, 46]
    · exact .inr (.inr (.inl ⟨h, h2, wlk_up h h2⟩))
    by_cases h3 : 12 < n.length
    · exact .inr (.inr (.inr (.inl ⟨h, ⟨h1, h2⟩, h3, wlk_long h h1 h2 h3⟩)))
    refine .inr (.inr (.inr (.inr ⟨h, ⟨h1, h2⟩, h3, ?_⟩)))
    by_cases h4 : fnd (tget t i).ents n = 0 ∧ r ≠ []
    · exact .inl ⟨h4.1, h4.2, wlk_gone h h1 h2 h3 h4.1 h4.2⟩
    by_cases h5 : (tget t (fnd (tget t i).ents n)).kind = 3 ∧ (f = true ∨ r ≠ [])
    · refine .inr (.inl ⟨h4, h5, ?_⟩)
      cases k with
      | zero => exact .inl ⟨rfl, wlk_loop h h1 h2 h3 h4 h5⟩
      | succ k => exact .inr ⟨k, rfl, wlk_link h h1 h2 h3 h4 h5⟩
    by_cases h6 : r = []
    · exact .inr (.inr (.inl ⟨h5, h6, wlk_last h h1 h2 h3 h5 h6⟩))
    · have h7 : fnd (tget t i).ents n ≠ 0 := fun q => h4 ⟨q, h6⟩
      exact .inr (.inr (.inr ⟨h5, h7, h6, wlk_on h h1 h2 h3 h7 h5 h6⟩))
  · exact .inl ⟨h, wlk_sr h⟩
theorem wlk_ind {P : Nat → List Nm → Int → Prop} (h0 : ∀ k i, P k [] i) (h1 : ∀ k n r i, (∀ j, P k r j) → (∀ k' l j, k' < k → P k' l j) → P k (n :: r) i) : ∀ k l i, P k l i := by
  intro k
  induction k using Nat.strongRecOn with
  | _ k ih =>
    intro l
    induction l with
    | nil => exact h0 k
    | cons n r ih2 => exact fun i => h1 k n r i ih2 (fun k' l j h => ih k' h l j)
theorem sr_vals (t : List Nd) (c : Wh) (i : Int) : srE t c i = 0 ∨ srE t c i = 20 ∨ srE t c i = 13 := by
  unfold srE
  repeat' split
  · exact .inr (.inl rfl)
  · exact .inr (.inr rfl)
  · exact .inl rfl
theorem fit_vals (t : List Nd) (p : Nm) : fitE t p = 0 ∨ fitE t p = 2 ∨ fitE t p = 36 ∨ fitE t p = 22 := by
  unfold fitE
  repeat' split
  · exact .inr (.inl rfl)
  · exact .inr (.inr (.inl rfl))
  · exact .inr (.inr (.inr rfl))
  · exact .inr (.inl rfl)
  · exact .inl rfl
/-- What fails finds nothing. -/
theorem wlk_err (t : List Nd) (c : Wh) (f : Bool) : ∀ k l i, (wlk t c f k l i).2 ≠ 0 → (wlk t c f k l i).1 = Fo.zero := by
  refine wlk_ind (fun k i h => absurd (by rw [wlk_nil]) h) (fun k n r i ih ih2 h => ?_)
  rcases wlk_step t c f k n r i with ⟨-, e⟩ | ⟨-, -, e⟩ | ⟨-, -, e⟩ | ⟨-, -, -, e⟩ | ⟨-, -, -, ⟨-, -, e⟩ | ⟨-, -, ⟨-, e⟩ | ⟨j, hj, e⟩⟩ | ⟨-, -, e⟩ | ⟨-, -, -, e⟩⟩ <;> rw [e] at h ⊢
  · exact ih _ h
  · exact ih _ h
  · exact ih2 _ _ _ (by omega) h
  · exact absurd rfl h
  · exact ih _ h
theorem res_err (t : List Nd) (c : Wh) (p : Nm) (f : Bool) (h : (resM t c p f).2 ≠ 0) : (resM t c p f).1 = Fo.zero := by
  unfold resM at h ⊢
  split
  · rfl
  · rename_i q
    rw [if_neg q] at h
    exact wlk_err _ _ _ _ _ _ h

/-! Searched directories. -/
/-- All above it let who asks search them. -/
def chn (t : List Nd) (c : Wh) (i : Int) : Prop := ∀ m, 1 ≤ m → itr (parF t) m i ≠ 0 → canT t c (itr (parF t) m i) 1 = true
theorem itr_zer {t : List Nd} (h : okT t) (m : Nat) : itr (parF t) m 0 = 0 := itr_zero (parF_zero h) m
theorem dir_par {t : List Nd} (h : Trx t) {i : Int} (hk : (tget t i).kind = 2) : (i = 1 ∧ parF t i = 0) ∨ (1 ≤ parF t i ∧ parF t i < i ∧ (tget t (parF t i)).kind = 2) := by
  have hi := (h.num i).1 (kind_tis hk)
  by_cases q : i = 1
  · refine .inl ⟨q, ?_⟩
    unfold parF
    rw [q, (par_zero t 0).2 h.top]
    rfl
  · refine .inr ?_
    obtain ⟨h3, h5⟩ := h.link i (by omega) hi.2
    have h4 : parT t 0 i ≠ 0 := fun q => by rw [(par_zero t 0).1 q] at h3; omega
    have key : ∀ (t : List Nd) (d : Nat), parT t d i ≠ 0 → ∃ k, ∃ hk : k < t.length, parT t d i = d + k + 1 ∧ cntE (t[k]).ents i ≠ 0 := by
      intro t
      induction t with
      | nil => intro d h; exact absurd rfl h
      | cons n t ih =>
        intro d h
        rw [parT] at h ⊢
        split
        · rename_i q
          rw [if_pos q] at h
          obtain ⟨k, hk, e1, e2⟩ := ih (d + 1) h
          exact ⟨k + 1, by rw [List.length_cons]; omega, by omega, by simpa using e2⟩
        · rename_i q
          exact ⟨0, Nat.succ_pos _, by omega, by simpa using q⟩
    obtain ⟨k, hk', e1, e2⟩ := key t 0 h4
    refine ⟨by unfold parF; omega, (h5 hk).2, ?_⟩
    unfold parF
    rw [e1, show ((0 + k + 1 : Nat) : Int) = (k : Int) + 1 by omega, tget_at hk']
    refine Classical.byContradiction (fun q => e2 ?_)
    rw [ok_ents h.ok (List.getElem_mem hk') q]
    rfl
theorem par_self {t : List Nd} (h : Trx t) : parF t 1 = 0 := by
  rcases dir_par h h.one with q | q
  · exact q.2
  · omega
theorem chn_root {t : List Nd} (h : Trx t) (c : Wh) : chn t c 1 := fun m hm hz => by
  obtain ⟨m, rfl⟩ : ∃ j, m = j + 1 := ⟨m - 1, by omega⟩
  rw [itr, par_self h, itr_zer h.ok] at hz
  exact absurd rfl hz
theorem chn_up {t : List Nd} {c : Wh} {i : Int} (h : chn t c i) : chn t c (parF t i) := fun m hm hz => h (m + 1) (by omega) hz
theorem chn_down {t : List Nd} {c : Wh} {i j : Int} (h : chn t c i) (hc : canT t c i 1 = true) (hj : parF t j = i) : chn t c j := fun m hm hz => by
  obtain ⟨m, rfl⟩ : ∃ a, m = a + 1 := ⟨m - 1, by omega⟩
  rw [itr, hj] at hz ⊢
  cases m with
  | zero => exact hc
  | succ m => exact h (m + 1) (by omega) hz
theorem le_sum : ∀ {l : List Nat} {a : Nat}, a ∈ l → a ≤ l.sum
  | b :: l, a, h => by
    rw [List.sum_cons]
    rcases List.mem_cons.1 h with h | h
    · omega
    · have := le_sum h
      omega
theorem sum_one {α : Type} (g : α → Nat) : ∀ (l : List α) (k : Nat) (h : k < l.length), (l.map g).sum = 1 → g l[k] ≠ 0 → ∀ m (hm : m < l.length), m ≠ k → g l[m] = 0
  | a :: l, 0, _, hs, hk, m, hm, hne => by
    obtain ⟨m, rfl⟩ : ∃ j, m = j + 1 := ⟨m - 1, by omega⟩
    simp only [List.map_cons, List.sum_cons, List.getElem_cons_zero, List.getElem_cons_succ] at hs hk ⊢
    have hz : (l.map g).sum = 0 := by omega
    have hm' : m < l.length := by simpa using hm
    exact List.sum_eq_zero_iff_forall_eq_nat.1 hz _ (List.mem_map.2 ⟨_, List.getElem_mem hm', rfl⟩)
  | a :: l, k + 1, h, hs, hk, m, hm, hne => by
    have hk' : k < l.length := by simpa using h
    simp only [List.map_cons, List.sum_cons, List.getElem_cons_succ] at hs hk
    have hge : g l[k] ≤ (l.map g).sum := le_sum (List.mem_map.2 ⟨_, List.getElem_mem hk', rfl⟩)
    cases m with
    | zero =>
      simp only [List.getElem_cons_zero]
      omega
    | succ m =>
      simp only [List.getElem_cons_succ]
      exact sum_one g l k hk' (by omega) hk m (by simpa using hm) (by omega)
/-- A directory that is found in another one has it as its parent. -/
theorem par_found {t : List Nd} (h : Trx t) {i : Int} {n : Nm} (hk : (tget t i).kind = 2) (hz : fnd (tget t i).ents n ≠ 0) (hd : (tget t (fnd (tget t i).ents n)).kind = 2) : parF t (fnd (tget t i).ents n) = i := by
  have hi := tis_in (kind_tis hk)
  have hmem : n ∈ nmE (tget t i).ents := Classical.byContradiction (fun q => hz (fnd_none q))
  obtain ⟨e, he, -, h2⟩ := fnd_some hmem
  generalize fnd (tget t i).ents n = j at hz hd h2 ⊢
  subst h2
  have hn := (h.num _).1 (kind_tis hd)
  by_cases q : e.2 = 1
  · have ht := link_zero.1 h.top i
    exact absurd (by rw [q]; exact ht) (cnt_pos.2 ⟨e, he, rfl⟩)
  · have hl := ((h.link e.2 (by omega) hn.2).2 hd).1
    have hk1 : (i - 1).toNat < t.length := by omega
    have e1 : (((i - 1).toNat : Nat) : Int) + 1 = i := by omega
    have hc : cntE (t[(i - 1).toNat]).ents e.2 ≠ 0 := by
      rw [← tget_at hk1, e1]
      exact cnt_pos.2 ⟨e, he, rfl⟩
    have := par_one t 0 (i - 1).toNat ⟨hk1, hc⟩ (fun m hm hne => sum_one (fun n : Nd => cntE n.ents e.2) t _ hk1 hl hc m hm hne)
    unfold parF
    rw [this]
    omega
theorem up_dir {t : List Nd} (h : Trx t) {i : Int} (hk : (tget t i).kind = 2) : (upI t i = i ∧ parF t i = 0) ∨ (upI t i = parF t i ∧ (tget t (parF t i)).kind = 2) := by
  unfold upI
  rcases dir_par h hk with ⟨h1, h2⟩ | ⟨h1, h2, h3⟩
  · unfold parF at h2 ⊢
    rw [if_neg (by omega)]
    exact .inl ⟨rfl, h2⟩
  · unfold parF at h1 h3 ⊢
    rw [if_pos (by omega)]
    exact .inr ⟨rfl, h3⟩
theorem up_kind {t : List Nd} (h : Trx t) {i : Int} (hk : (tget t i).kind = 2) : (tget t (upI t i)).kind = 2 := by
  rcases up_dir h hk with q | q
  · rw [q.1]; exact hk
  · rw [q.1]; exact q.2
theorem npF_ne : ∀ (p cur : List UInt8), ∀ n ∈ npF cur p, n ≠ []
  | [], cur, n, h => by
    rw [npF] at h
    split at h
    · cases h
    · rw [List.mem_singleton] at h
      subst h
      assumption
  | c :: r, cur, n, h => by
    rw [npF] at h
    split at h
    · split at h
      · exact npF_ne r _ n h
      · rcases List.mem_cons.1 h with h | h
        · subst h
          assumption
        · exact npF_ne r _ n h
    · exact npF_ne r _ n h
theorem split_ne (p : List UInt8) : ∀ n ∈ splitP p, n ≠ [] := by
  unfold splitP
  split
  · intro n h
    rcases List.mem_append.1 h with h | h
    · exact npF_ne p [] n h
    · rw [List.mem_singleton] at h
      rw [h]
      decide
  · exact npF_ne p []
structure Srd (t : List Nd) (c : Wh) (f : Bool) (F : Fo) : Prop where
  kind : (tget t F.dir).kind = 2
  chain : chn t c F.dir
  self : F.name = [] → F.dir = F.node
  found : F.name ≠ [] → canT t c F.dir 1 = true ∧ fnd (tget t F.dir).ents F.name = F.node
  link : f = true → (tget t F.node).kind = 3 → F.name = []
theorem wlk_srd {t : List Nd} (h : Trx t) (c : Wh) (f : Bool) : ∀ k l i, (∀ n ∈ l, n ≠ []) → ((tget t i).kind = 2 → chn t c i) → ((tget t i).kind ≠ 2 → l ≠ []) → (wlk t c f k l i).2 = 0 → Srd t c f (wlk t c f k l i).1 := by
  refine wlk_ind (fun k i _ h2 h3 _ => ?_) (fun k n r i ih ih2 hne h2 h3 hz => ?_)
  · have hk : (tget t i).kind = 2 := Classical.byContradiction (fun q => h3 q rfl)
    rw [wlk_nil]
    exact ⟨hk, h2 hk, fun _ => rfl, fun q => absurd rfl q, fun _ _ => rfl⟩
  · have hnr : ∀ m ∈ r, m ≠ [] := fun m hm => hne m (List.mem_cons_of_mem _ hm)
    have hn0 : n ≠ [] := hne n (List.mem_cons_self ..)
    rcases wlk_step t c f k n r i with ⟨q, e⟩ | ⟨q, -, e⟩ | ⟨q, -, e⟩ | ⟨q, -, -, e⟩ | ⟨q, -, -, ⟨-, -, e⟩ | ⟨-, -, ⟨-, e⟩ | ⟨j, hj, e⟩⟩ | ⟨ql, hr, e⟩ | ⟨-, qz, hr, e⟩⟩ <;> rw [e] at hz ⊢
    · exact absurd hz q
    · obtain ⟨hk, hc⟩ := sr_zero.1 q
      exact ih i hnr h2 (fun qq => absurd hk qq) hz
    · obtain ⟨hk, hc⟩ := sr_zero.1 q
      refine ih _ hnr (fun _ => ?_) (fun qq => absurd (up_kind h hk) qq) hz
      rcases up_dir h hk with q | q
      · rw [q.1]; exact h2 hk
      · rw [q.1]; exact chn_up (h2 hk)
    · exact absurd hz (by decide)
    · exact absurd hz (by decide)
    · exact absurd hz (by decide)
    · obtain ⟨hk, hc⟩ := sr_zero.1 q
      refine ih2 _ _ _ (by omega) (fun m hm => ?_) (fun _ => ?_) (fun qq => ?_) hz
      · rcases List.mem_append.1 hm with hm | hm
        · exact split_ne _ m hm
        · exact hnr m hm
      · split
        · exact chn_root h c
        · exact h2 hk
      · split at qq
        · exact absurd h.one qq
        · exact absurd hk qq
    · obtain ⟨hk, hc⟩ := sr_zero.1 q
      exact ⟨hk, h2 hk, fun qq => absurd qq hn0, fun _ => ⟨hc, rfl⟩, fun qf qk => absurd ⟨qk, .inl qf⟩ ql⟩
    · obtain ⟨hk, hc⟩ := sr_zero.1 q
      exact ih _ hnr (fun qk => chn_down (h2 hk) hc (par_found h hk qz qk)) (fun _ => hr) hz
theorem res_srd {t : List Nd} (h : Trx t) (c : Wh) (p : Nm) (f : Bool) (hz : (resM t c p f).2 = 0) : Srd t c f (resM t c p f).1 := by
  unfold resM at hz ⊢
  split
  · rename_i q
    rw [if_pos q] at hz
    exact absurd hz q
  · rename_i q
    rw [if_neg q] at hz
    exact wlk_srd h c f 8 _ 1 (split_ne p) (fun _ => chn_root h c) (fun q => absurd h.one q) hz
/-- After so many steps up one is out of the tree. -/
theorem itr_out {t : List Nd} (h : Trx t) : ∀ (m : Nat) (i : Int), (tget t i).kind = 2 → i ≤ m → itr (parF t) m i = 0
  | 0, i, hk, hi => by
    have := tis_in (kind_tis hk)
    omega
  | m + 1, i, hk, hi => by
    rw [itr]
    rcases dir_par h hk with ⟨h1, h2⟩ | ⟨h1, h2, h3⟩
    · rw [h2, itr_zer h.ok]
    · exact itr_out h m _ h3 (by omega)
theorem itr_25 {t : List Nd} (h : Trx t) {i : Int} (hk : (tget t i).kind = 2) : itr (parF t) 25 i = 0 := by
  have h1 := tis_in (kind_tis hk)
  have h2 := h.le
  exact itr_out h 25 i hk (by omega)
theorem itr_succ (f : Int → Int) : ∀ (m : Nat) (i : Int), itr f (m + 1) i = f (itr f m i) := fun m i => by
  rw [itr_add f m 1 i]
  rfl

/-! Root, and others. -/
def wh0 : Wh := ⟨0, 0, []⟩
theorem can_root (n : Nd) (x : Int) : canN wh0 n x = true := rfl
theorem sr_root {t : List Nd} {i : Int} : srE t wh0 i = if (tget t i).kind ≠ 2 then 20 else 0 := by
  unfold srE
  split
  · rfl
  · rename_i h
    have h : (tget t i).kind = 2 := Classical.byContradiction h
    rw [if_neg]
    unfold canT
    rw [kind_tis h, can_root]
    decide
theorem sr_other (t : List Nd) (c : Wh) (i : Int) : srE t c i = srE t wh0 i ∨ srE t c i = 13 := by
  rw [sr_root]
  unfold srE
  repeat' split
  · exact .inl rfl
  · exact .inr rfl
  · exact .inl rfl
theorem wlk_root (t : List Nd) (c : Wh) (f : Bool) : ∀ k l i, wlk t c f k l i = wlk t wh0 f k l i ∨ wlk t c f k l i = (Fo.zero, 13) := by
  refine wlk_ind (fun k i => .inl (by rw [wlk_nil, wlk_nil])) (fun k n r i ih ih2 => ?_)
  rcases sr_other t c i with q | q
  · rcases wlk_step t c f k n r i with ⟨a, e⟩ | ⟨a, b, e⟩ | ⟨a, b, e⟩ | ⟨a, b, d, e⟩ | ⟨a, b, d, ⟨x, y, e⟩ | ⟨x, y, ⟨z, e⟩ | ⟨j, hj, e⟩⟩ | ⟨x, y, e⟩ | ⟨x, y, z, e⟩⟩ <;> rw [e]
    · rw [q] at a ⊢
      rw [wlk_sr a]
      exact .inl rfl
    · rw [q] at a
      rw [wlk_dot a b]
      exact ih _
    · rw [q] at a
      rw [wlk_up a b]
      exact ih _
    · rw [q] at a
      rw [wlk_long a b.1 b.2 d]
      exact .inl rfl
    · rw [q] at a
      rw [wlk_gone a b.1 b.2 d x y]
      exact .inl rfl
    · rw [q] at a
      subst z
      rw [wlk_loop a b.1 b.2 d x y]
      exact .inl rfl
    · rw [q] at a
      subst hj
      rw [wlk_link a b.1 b.2 d x y]
      exact ih2 _ _ _ (by omega)
    · rw [q] at a
      rw [wlk_last a b.1 b.2 d x y]
      exact .inl rfl
    · rw [q] at a
      rw [wlk_on a b.1 b.2 d y x z]
      exact ih _
  · rw [wlk_sr (by rw [q]; decide), q]
    exact .inr rfl
theorem wlk_root13 (t : List Nd) (f : Bool) : ∀ k l i, (wlk t wh0 f k l i).2 ≠ 13 := by
  refine wlk_ind (fun k i => by rw [wlk_nil]; show (0 : Int) ≠ 13; decide) (fun k n r i ih ih2 => ?_)
  rcases wlk_step t wh0 f k n r i with ⟨a, e⟩ | ⟨a, b, e⟩ | ⟨a, b, e⟩ | ⟨a, b, d, e⟩ | ⟨a, b, d, ⟨x, y, e⟩ | ⟨x, y, ⟨z, e⟩ | ⟨j, hj, e⟩⟩ | ⟨x, y, e⟩ | ⟨x, y, z, e⟩⟩ <;> rw [e]
  · rw [sr_root] at a ⊢
    split
    · show (20 : Int) ≠ 13; decide
    · rename_i h
      rw [if_neg h] at a
      exact absurd rfl a
  · exact ih _
  · exact ih _
  · show (36 : Int) ≠ 13; decide
  · show (2 : Int) ≠ 13; decide
  · show (40 : Int) ≠ 13; decide
  · exact ih2 _ _ _ (by omega)
  · show (0 : Int) ≠ 13; decide
  · exact ih _
/-- All directories may be searched by all. -/
def opnN (n : Nd) : Nd := if n.kind = 2 then { n with mode := 511 } else n
def opnT (t : List Nd) : List Nd := t.map opnN
theorem opn_kind (n : Nd) : (opnN n).kind = n.kind := by unfold opnN; split <;> rfl
theorem opn_ents (n : Nd) : (opnN n).ents = n.ents := by unfold opnN; split <;> rfl
theorem opn_target (n : Nd) : (opnN n).target = n.target := by unfold opnN; split <;> rfl
theorem opn_get (t : List Nd) (i : Int) : tget (opnT t) i = opnN (tget t i) := by
  by_cases h : 1 ≤ i ∧ i ≤ t.length
  · obtain ⟨k, rfl⟩ : ∃ k : Nat, i = (k : Int) + 1 := ⟨(i - 1).toNat, by omega⟩
    have hk : k < t.length := by omega
    rw [tget_at hk, tget_at (t := opnT t) (by unfold opnT; rw [List.length_map]; exact hk)]
    unfold opnT
    rw [List.getElem_map]
  · rw [tget_out h, tget_out (by unfold opnT; rw [List.length_map]; exact h)]
    rfl
theorem opn_par (i : Int) : ∀ (t : List Nd) (d : Nat), parT (opnT t) d i = parT t d i
  | [], _ => rfl
  | n :: t, d => by
    show parT (opnN n :: opnT t) d i = _
    rw [parT, parT, opn_ents, opn_par i t]
theorem opn_up (t : List Nd) (i : Int) : upI (opnT t) i = upI t i := by
  unfold upI
  rw [opn_par]
theorem lets_open : ∀ k : Fin 3, lets 1 (cls 511 ((k.val : Nat) : Int)) = true := by decide +kernel
theorem cls_three (u g : Int) (gs : List Int) (x y : Int) : clsOf u g gs x y = ((0 : Fin 3).val : Nat) ∨ clsOf u g gs x y = ((1 : Fin 3).val : Nat) ∨ clsOf u g gs x y = ((2 : Fin 3).val : Nat) := by
  unfold clsOf
  repeat' split
  · exact .inl rfl
  · exact .inr (.inl rfl)
  · exact .inr (.inr rfl)
theorem sr_open (t : List Nd) (c : Wh) (i : Int) : srE (opnT t) c i = srE t wh0 i := by
  rw [sr_root]
  unfold srE
  rw [opn_get, opn_kind]
  split
  · rfl
  · rename_i h
    have h : (tget t i).kind = 2 := Classical.byContradiction h
    rw [if_neg]
    have h1 : tis (opnT t) i = true := kind_tis (by rw [opn_get, opn_kind, h])
    have h2 : (opnN (tget t i)).mode = 511 := by unfold opnN; rw [if_pos h]
    unfold canT
    rw [h1, opn_get]
    unfold canN
    rw [h2]
    rcases cls_three c.u c.g c.gs (opnN (tget t i)).uid (opnN (tget t i)).gid with q | q | q <;> rw [q, lets_open] <;> simp
theorem wlk_open (t : List Nd) (c : Wh) (f : Bool) : ∀ k l i, wlk (opnT t) c f k l i = wlk t wh0 f k l i := by
  refine wlk_ind (fun k i => by rw [wlk_nil, wlk_nil]) (fun k n r i ih ih2 => ?_)
  have q := sr_open t c i
  rcases wlk_step (opnT t) c f k n r i with ⟨a, e⟩ | ⟨a, b, e⟩ | ⟨a, b, e⟩ | ⟨a, b, d, e⟩ | ⟨a, b, d, ⟨x, y, e⟩ | ⟨x, y, ⟨z, e⟩ | ⟨j, hj, e⟩⟩ | ⟨x, y, e⟩ | ⟨x, y, z, e⟩⟩ <;> rw [e]
  · rw [q] at a ⊢
    rw [wlk_sr a]
  · rw [q] at a
    rw [wlk_dot a b]
    exact ih _
  · rw [q] at a
    rw [wlk_up a b, opn_up]
    exact ih _
  · rw [q] at a
    rw [wlk_long a b.1 b.2 d]
  · rw [q] at a
    rw [opn_get, opn_ents] at x
    rw [wlk_gone a b.1 b.2 d x y]
  · rw [q] at a
    subst z
    rw [opn_get, opn_ents] at x
    rw [opn_get, opn_get, opn_ents, opn_kind] at y
    rw [wlk_loop a b.1 b.2 d x y]
  · rw [q] at a
    subst hj
    rw [opn_get, opn_ents] at x
    rw [opn_get, opn_get, opn_ents, opn_kind] at y
    rw [wlk_link a b.1 b.2 d x y, opn_get, opn_get, opn_ents, opn_target]
    exact ih2 _ _ _ (by omega)
  · rw [q] at a
    rw [opn_get, opn_get, opn_ents, opn_kind] at x
    rw [wlk_last a b.1 b.2 d x y, opn_get, opn_ents]
  · rw [q] at a
    rw [opn_get, opn_get, opn_ents, opn_kind] at x
    rw [opn_get, opn_ents] at y
    rw [wlk_on a b.1 b.2 d y x z, opn_get, opn_ents]
    exact ih _
theorem fit_open (t : List Nd) (p : Nm) : fitE (opnT t) p = fitE t p := by
  unfold fitE tis
  rw [opn_get, opn_kind]
theorem res_open (t : List Nd) (c : Wh) (p : Nm) (f : Bool) : resM (opnT t) c p f = resM t wh0 p f := by
  unfold resM
  rw [fit_open, wlk_open]
theorem res_root (t : List Nd) (c : Wh) (p : Nm) (f : Bool) : resM t c p f = resM t wh0 p f ∨ resM t c p f = (Fo.zero, 13) := by
  unfold resM
  split
  · exact .inl rfl
  · exact wlk_root ..
theorem res_root13 (t : List Nd) (p : Nm) (f : Bool) : (resM t wh0 p f).2 ≠ 13 := by
  unfold resM
  split
  · intro h
    have h : fitE t p = 13 := h
    rcases fit_vals t p with q | q | q | q <;> rw [q] at h <;> exact absurd h (by decide)
  · exact fun h => wlk_root13 _ _ _ _ _ h
end Go.Proofs.YtfopnfgfoicidaaGreat
namespace Go.Proofs.YtfopnfgfoicidaaGreat
open Go Go.RowKit
set_option maxRecDepth 100000

/-- The same names, with dots ahead of some. -/
inductive Dts : List Nm → List Nm → Prop where
  | nil : Dts [] []
  | cons (n : Nm) {l l' : List Nm} : Dts l l' → Dts (n :: l) (n :: l')
  | dot {l l' : List Nm} : l ≠ [] → Dts l l' → Dts l ([46] :: l')
theorem Dts.refl : ∀ l : List Nm, Dts l l
  | [] => .nil
  | n :: l => .cons n (Dts.refl l)
theorem Dts.app {l l' : List Nm} (h : Dts l l') : ∀ x : List Nm, Dts (x ++ l) (x ++ l')
  | [] => h
  | n :: x => .cons n (h.app x)
theorem Dts.empty {l l' : List Nm} (h : Dts l l') : l = [] ↔ l' = [] := by
  cases h with
  | nil => exact Iff.rfl
  | cons n h => exact ⟨fun q => (by cases q), fun q => (by cases q)⟩
  | dot hn h => exact ⟨fun q => absurd q hn, fun q => (by cases q)⟩
theorem wlk_dts (t : List Nd) (f : Bool) : ∀ (k : Nat) (l' : List Nm) (i : Int), ∀ l, Dts l l' → wlk t wh0 f k l' i = wlk t wh0 f k l i := by
  refine wlk_ind (fun k i l h => ?_) (fun k n r' i ih ih2 l h => ?_)
  · rw [h.empty.2 rfl]
  · cases h with
    | @cons _ r _ h =>
      have hr : r = [] ↔ r' = [] := h.empty
      have hr' : r ≠ [] ↔ r' ≠ [] := not_congr hr
      rcases wlk_step t wh0 f k n r' i with ⟨a, e⟩ | ⟨a, b, e⟩ | ⟨a, b, e⟩ | ⟨a, b, d, e⟩ | ⟨a, b, d, ⟨x, y, e⟩ | ⟨x, y, ⟨z, e⟩ | ⟨j, hj, e⟩⟩ | ⟨x, y, e⟩ | ⟨x, y, z, e⟩⟩ <;> rw [e]
      · rw [wlk_sr a]
      · rw [wlk_dot a b]
        exact ih _ _ h
      · rw [wlk_up a b]
        exact ih _ _ h
      · rw [wlk_long a b.1 b.2 d]
      · rw [wlk_gone a b.1 b.2 d x (hr'.2 y)]
      · subst z
        rw [← hr'] at x y
        rw [wlk_loop a b.1 b.2 d x y]
      · subst hj
        rw [← hr'] at x y
        rw [wlk_link a b.1 b.2 d x y]
        exact ih2 _ _ _ (by omega) _ (h.app _)
      · rw [← hr'] at x
        rw [wlk_last a b.1 b.2 d x (hr.2 y)]
      · rw [← hr'] at x z
        rw [wlk_on a b.1 b.2 d y x z]
        exact ih _ _ h
    | dot hn h =>
      by_cases a : srE t wh0 i = 0
      · rw [wlk_dot a rfl]
        exact ih _ _ h
      · rw [wlk_sr a]
        cases l with
        | nil => exact absurd rfl hn
        | cons m l => rw [wlk_sr a]
def dotP : List UInt8 → List UInt8
  | [] => []
  | c :: r => if c = 47 then 47 :: 46 :: 47 :: dotP r else c :: dotP r
theorem dotP_app (c : UInt8) : ∀ a : List UInt8, dotP (a ++ [c]) = dotP a ++ if c = 47 then [47, 46, 47] else [c]
  | [] => by
    by_cases h : c = 47 <;> simp [dotP, h]
  | b :: a => by
    rw [List.cons_append, dotP, dotP, dotP_app c a]
    split
    · rfl
    · rfl
theorem dotP_len : ∀ p : List UInt8, (dotP p).length ≤ 3 * p.length
  | [] => Nat.le_refl _
  | c :: r => by
    have := dotP_len r
    rw [dotP]
    split
    · simp only [List.length_cons]; omega
    · simp only [List.length_cons]; omega
theorem dotP_nil {p : List UInt8} : dotP p = [] ↔ p = [] := by
  cases p with
  | nil => exact ⟨fun _ => rfl, fun _ => rfl⟩
  | cons c r =>
    rw [dotP]
    split
    · exact ⟨fun h => (by cases h), fun h => (by cases h)⟩
    · exact ⟨fun h => (by cases h), fun h => (by cases h)⟩
theorem dotP_zero : ∀ p : List UInt8, (dotP p).contains 0 = p.contains 0
  | [] => rfl
  | c :: r => by
    have := dotP_zero r
    rw [dotP]
    split
    · rename_i h
      subst h
      simp only [List.contains_cons, this]
      rfl
    · simp only [List.contains_cons, this]
/-- A slash at the end is a name more. -/
def tailN (p : List UInt8) : List Nm := if p.getLast? = some 47 then [[46]] else []
theorem tailN_byte {c : UInt8} (h : ¬ c = 47) (r : List UInt8) : tailN (c :: r) = tailN r := by
  unfold tailN
  cases r with
  | nil => rw [if_neg (by simpa using h), if_neg (by simp)]
  | cons d r => rw [List.getLast?_cons_cons]
theorem tailN_cons (c : UInt8) {r : List UInt8} (h : r ≠ []) : tailN (c :: r) = tailN r := by
  unfold tailN
  cases r with
  | nil => exact absurd rfl h
  | cons d r => rw [List.getLast?_cons_cons]
theorem some_name : ∀ (r cur : List UInt8), (cur ≠ [] ∨ r ≠ []) → npF cur r ++ tailN r ≠ []
  | [], cur, h => by
    have h : cur ≠ [] := h.resolve_right (fun q => q rfl)
    rw [npF, if_neg h]
    exact fun q => by cases q
  | c :: r, cur, h => by
    by_cases hc : c = 47
    · subst hc
      rw [npF, if_pos rfl]
      split
      · by_cases hr : r = []
        · subst hr
          show npF [] [] ++ tailN [47] ≠ []
          decide
        · rw [tailN_cons _ hr]
          exact some_name r [] (.inr hr)
      · exact fun q => by cases q
    · rw [npF, if_neg hc, tailN_byte hc]
      exact some_name r _ (.inl (by simp))
theorem npF_dot (d : List UInt8) : npF [] (46 :: 47 :: d) = [46] :: npF [] d := by
  rw [npF, if_neg (by decide), npF, if_pos rfl, if_neg (by simp)]
  rfl
theorem dts_path : ∀ (p cur : List UInt8), Dts (npF cur p ++ tailN p) (npF cur (dotP p) ++ tailN (dotP p))
  | [], cur => Dts.refl _
  | c :: r, cur => by
    by_cases hc : c = 47
    · subst hc
      have e1 : npF cur (47 :: r) = (if cur = [] then [] else [cur]) ++ npF [] r := by
        rw [npF, if_pos rfl]
        split <;> rfl
      have e2 : npF cur (dotP (47 :: r)) = (if cur = [] then [] else [cur]) ++ [46] :: npF [] (dotP r) := by
        rw [dotP, if_pos rfl, npF, if_pos rfl, npF_dot]
        split <;> rfl
      rw [e1, e2, List.append_assoc, List.append_assoc]
      refine Dts.app ?_ _
      by_cases hr : r = []
      · subst hr
        show Dts ([] ++ tailN [47]) ([[46]] ++ tailN [47, 46, 47])
        have h1 : tailN [47] = [[46]] := by decide
        have h2 : tailN [47, 46, 47] = [[46]] := by decide
        rw [h1, h2]
        exact .dot (by simp) (Dts.refl _)
      · have hd : dotP r ≠ [] := fun q => hr (dotP_nil.1 q)
        have e3 : tailN (dotP (47 :: r)) = tailN (dotP r) := by
          rw [dotP, if_pos rfl, tailN_cons _ (by simp), tailN_cons _ (by simp), tailN_cons _ hd]
        rw [tailN_cons _ hr, e3]
        exact .dot (some_name r [] (.inr hr)) (dts_path r [])
    · have e1 : dotP (c :: r) = c :: dotP r := by rw [dotP, if_neg hc]
      rw [e1, npF, if_neg hc, npF, if_neg hc, tailN_byte hc, tailN_byte hc]
      exact dts_path r _
/-- From the root, a dot behind no name changes nothing. -/
theorem wlk_split {t : List Nd} (h : (tget t 1).kind = 2) (f : Bool) (k : Nat) (p : List UInt8) : wlk t wh0 f k (splitP p) 1 = wlk t wh0 f k (nms p ++ tailN p) 1 := by
  unfold splitP tailN
  by_cases q : p.getLast? = some 47
  · by_cases q2 : nms p = []
    · rw [if_neg (fun e => e.1 q2), if_pos q, q2, wlk_nil, List.nil_append, wlk_dot (by rw [sr_root, if_neg (fun e => e h)]) rfl, wlk_nil]
    · rw [if_pos ⟨q2, q⟩, if_pos q]
  · rw [if_neg (fun e => q e.2), if_neg q, List.append_nil]
theorem dir_tis {t : List Nd} (h : (tget t 1).kind = 2) : tis t 1 = true := kind_tis h
theorem contains_false {p : Nm} : ¬ p.contains 0 = true → p.contains 0 = false := by simp
theorem fit_of {t : List Nd} {p q : Nm} (_h : (tget t 1).kind = 2) (hp : p ≠ []) (hq : q ≠ []) (lp : p.length ≤ 64) (lq : q.length ≤ 64) (hc : q.contains 0 = p.contains 0) : fitE t q = fitE t p := by
  unfold fitE
  rw [if_neg hp, if_neg hq, if_neg (show ¬ 64 < p.length by omega), if_neg (show ¬ 64 < q.length by omega), hc]
theorem res_dots {t : List Nd} (h : (tget t 1).kind = 2) (f : Bool) {p : Nm} (hl : p.length ≤ 20) : resM t wh0 (dotP p) f = resM t wh0 p f := by
  by_cases hp : p = []
  · subst hp
    rfl
  · have hd : dotP p ≠ [] := fun q => hp (dotP_nil.1 q)
    have := dotP_len p
    unfold resM
    rw [fit_of h hp hd (by omega) (by omega) (dotP_zero p), wlk_split h, wlk_split h, wlk_dts t f 8 _ 1 _ (show Dts (nms p ++ tailN p) (nms (dotP p) ++ tailN (dotP p)) from dts_path p [])]
theorem nms_sl1 (p : List UInt8) : nms (47 :: p) = nms p := by
  show npF [] (47 :: p) = npF [] p
  rw [npF, if_pos rfl, if_pos rfl]
theorem res_slash {t : List Nd} (h : (tget t 1).kind = 2) (f : Bool) {p : Nm} (hp : p ≠ []) (hl : p.length ≤ 20) : resM t wh0 (47 :: p) f = resM t wh0 p f := by
  unfold resM
  rw [fit_of h hp (by simp) (by omega) (by rw [List.length_cons]; omega) (by rw [List.contains_cons]; rfl), wlk_split h, wlk_split h, nms_sl1, tailN_cons _ hp]
theorem res_none (t : List Nd) (c : Wh) (f : Bool) : resM t c [] f = (Fo.zero, 2) := rfl
theorem res_top {t : List Nd} (h : (tget t 1).kind = 2) (c : Wh) (f : Bool) : resM t c [47] f = (⟨1, [], 1⟩, 0) := by
  have h1 : fitE t [47] = 0 := by
    unfold fitE
    rw [if_neg (by simp), if_neg (by decide), if_neg (by decide), kind_tis h, if_neg (by decide)]
  unfold resM
  rw [if_neg (fun q => q h1)]
  have h2 : splitP [47] = [] := by decide
  rw [h2, wlk_nil]

/-! A path in two parts. -/
/-- A name is looked for where a path has led. -/
def thn (t : List Nd) (c : Wh) (n : Nm) (R : Fo × Int) : Fo × Int :=
  if R.2 ≠ 0 then (Fo.zero, R.2) else if R.1.node = 0 then (Fo.zero, 2) else if srE t c R.1.node ≠ 0 then (Fo.zero, srE t c R.1.node) else (⟨R.1.node, n, fnd (tget t R.1.node).ents n⟩, 0)
theorem wlk_one {t : List Nd} {c : Wh} {n : Nm} (h1 : n ≠ [46]) (h2 : n ≠ [46, 46]) (h3 : ¬ 12 < n.length) (k : Nat) {i : Int} (hi : i ≠ 0) (x : Int) (m : Nm) : wlk t c false k [n] i = thn t c n (⟨x, m, i⟩, 0) := by
  unfold thn
  rw [if_neg (fun q => q rfl), if_neg hi]
  split
  · rename_i a
    exact wlk_sr a
  · rename_i a
    have a : srE t c i = 0 := Classical.byContradiction a
    exact wlk_last a h1 h2 h3 (fun q => q.2.elim (fun q => by cases q) (fun q => q rfl)) rfl
theorem up_ne {t : List Nd} {i : Int} (h : i ≠ 0) : upI t i ≠ 0 := by
  unfold upI
  split
  · omega
  · exact h
theorem zero_kind (t : List Nd) : (tget t 0).kind = 0 := by
  rw [tget_out (by omega)]
  rfl
theorem wlk_thn {t : List Nd} {c : Wh} {n : Nm} (h1 : n ≠ [46]) (h2 : n ≠ [46, 46]) (h3 : ¬ 12 < n.length) : ∀ k l i, i ≠ 0 → wlk t c false k (l ++ [n]) i = thn t c n (wlk t c true k l i) := by
  refine wlk_ind (fun k i hi => ?_) (fun k m r i ih ih2 hi => ?_)
  · rw [wlk_nil]
    exact wlk_one h1 h2 h3 k hi _ _
  · have hne : r ++ [n] ≠ [] := by simp
    have hl : ∀ (l : List Nm) (e : Int), e ≠ 0 → thn t c n (Fo.zero, e) = (Fo.zero, e) := fun l e he => by
      unfold thn
      rw [if_pos he]
    rw [List.cons_append]
    rcases wlk_step t c true k m r i with ⟨a, e⟩ | ⟨a, b, e⟩ | ⟨a, b, e⟩ | ⟨a, b, d, e⟩ | ⟨a, b, d, ⟨x, y, e⟩ | ⟨x, y, ⟨z, e⟩ | ⟨j, hj, e⟩⟩ | ⟨x, y, e⟩ | ⟨x, y, z, e⟩⟩ <;> rw [e]
    · rw [wlk_sr a, hl r _ a]
    · rw [wlk_dot a b]
      exact ih _ hi
    · rw [wlk_up a b]
      exact ih _ (up_ne hi)
    · rw [wlk_long a b.1 b.2 d, hl r _ (by decide)]
    · rw [wlk_gone a b.1 b.2 d x hne, hl r _ (by decide)]
    · have hz : fnd (tget t i).ents m ≠ 0 := fun q => by
        have h := y.1
        rw [q, zero_kind] at h
        exact absurd h (by decide)
      subst z
      rw [wlk_loop a b.1 b.2 d (fun q => hz q.1) ⟨y.1, .inr hne⟩, hl r _ (by decide)]
    · have hz : fnd (tget t i).ents m ≠ 0 := fun q => by
        have h := y.1
        rw [q, zero_kind] at h
        exact absurd h (by decide)
      subst hj
      rw [wlk_link a b.1 b.2 d (fun q => hz q.1) ⟨y.1, .inr hne⟩, ← List.append_assoc]
      refine ih2 _ _ _ (by omega) ?_
      split
      · decide
      · exact hi
    · have hk : ¬ (tget t (fnd (tget t i).ents m)).kind = 3 := fun q => x ⟨q, .inl rfl⟩
      subst y
      by_cases hz : fnd (tget t i).ents m = 0
      · rw [List.nil_append, wlk_gone a b.1 b.2 d hz (by simp)]
        unfold thn
        rw [if_neg (fun q => q rfl), if_pos hz]
      · rw [List.nil_append, wlk_on a b.1 b.2 d hz (fun q => hk q.1) (by simp)]
        exact wlk_one h1 h2 h3 k hz _ _
    · have hk : ¬ (tget t (fnd (tget t i).ents m)).kind = 3 := fun q => x ⟨q, .inl rfl⟩
      rw [wlk_on a b.1 b.2 d y (fun q => hk q.1) hne]
      exact ih _ y
theorem res_parts {t : List Nd} (h : (tget t 1).kind = 2) (c : Wh) {p n : Nm} (hp : p ≠ []) (he : ¬ p.getLast? = some 47) (lp : p.length ≤ 40) (hn : nok n = true) : resM t c (joinP p n) false = thn t c n (resM t c p true) := by
  have hb : badN n = false ∧ n.length ≤ 12 := by simpa [nok] using hn
  have hb1 := hb.1
  unfold badN at hb1
  simp only [Bool.or_eq_false_iff, beq_eq_false_iff_ne] at hb1
  obtain ⟨⟨⟨⟨h0, h1⟩, h2⟩, h4⟩, h5⟩ := hb1
  have hs : noSl n := fun x hx q => by
    subst q
    have : n.contains 47 = true := by simpa using hx
    rw [this] at h4
    cases h4
  have e1 : joinP p n = p ++ 47 :: n := join_eq hp he
  have e2 : splitP (p ++ 47 :: n) = splitP p ++ [n] := by
    rw [split_same he, split_same (cons_last p n hs h0), join_nms hs h0]
  have e3 : (p ++ 47 :: n).contains 0 = p.contains 0 := by
    have h5' : ¬ (0 : UInt8) ∈ n := by simpa using h5
    rw [Bool.eq_iff_iff]
    simp [h5']
  have hl := hb.2
  unfold resM
  rw [e1, fit_of h hp (by simp) (by omega) (by simp only [List.length_append, List.length_cons]; omega) e3, e2]
  split
  · rename_i q
    unfold thn
    rw [if_pos q]
  · exact wlk_thn h1 h2 (by omega) 8 _ 1 (by decide)
end Go.Proofs.YtfopnfgfoicidaaGreat
