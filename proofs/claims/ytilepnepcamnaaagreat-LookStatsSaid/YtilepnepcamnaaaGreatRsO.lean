/-
  A path with dots between its names, and a path in two parts, as plain mathematics. No condition.
-/
import Derived.Test.YtilepnepcamnaaaGreatRsN
namespace Go.Proofs.YtilepnepcamnaaaGreat
open Go Go.RowKit
set_option maxRecDepth 100000

/-- The same names, with dots ahead of some. -/
inductive Dts : List Nm → List Nm → Prop where
  | nil : Dts [] []
  | cons (n : Nm) {l l' : List Nm} : Dts l l' → Dts (n :: l) (n :: l')
  | dot {l l' : List Nm} : l ≠ [] → Dts l l' → Dts l ([46] :: l')
theorem Dts.refl : ∀ l : List Nm, Dts l l
  | [] => .nil
  | n :: l => .cons n (Dts.refl l)
theorem Dts.app {l l' : List Nm} (h : Dts l l') : ∀ x : List Nm, Dts (x ++ l) (x ++ l')
  | [] => h
  | n :: x => .cons n (h.app x)
theorem Dts.empty {l l' : List Nm} (h : Dts l l') : l = [] ↔ l' = [] := by
  cases h with
  | nil => exact Iff.rfl
  | cons n h => exact ⟨fun q => (by cases q), fun q => (by cases q)⟩
  | dot hn h => exact ⟨fun q => absurd q hn, fun q => (by cases q)⟩
theorem wlk_dts (t : List Nd) (f : Bool) : ∀ (k : Nat) (l' : List Nm) (i : Int), ∀ l, Dts l l' → wlk t wh0 f k l' i = wlk t wh0 f k l i := by
  refine wlk_ind (fun k i l h => ?_) (fun k n r' i ih ih2 l h => ?_)
  · rw [h.empty.2 rfl]
  · cases h with
    | @cons _ r _ h =>
      have hr : r = [] ↔ r' = [] := h.empty
      have hr' : r ≠ [] ↔ r' ≠ [] := not_congr hr
      rcases wlk_step t wh0 f k n r' i with ⟨a, e⟩ | ⟨a, b, e⟩ | ⟨a, b, e⟩ | ⟨a, b, d, e⟩ | ⟨a, b, d, ⟨x, y, e⟩ | ⟨x, y, ⟨z, e⟩ | ⟨j, hj, e⟩⟩ | ⟨x, y, e⟩ | ⟨x, y, z, e⟩⟩ <;> rw [e]
      · rw [wlk_sr a]
      · rw [wlk_dot a b]
        exact ih _ _ h
      · rw [wlk_up a b]
        exact ih _ _ h
      · rw [wlk_long a b.1 b.2 d]
      · rw [wlk_gone a b.1 b.2 d x (hr'.2 y)]
      · subst z
        rw [← hr'] at x y
        rw [wlk_loop a b.1 b.2 d x y]
      · subst hj
        rw [← hr'] at x y
        rw [wlk_link a b.1 b.2 d x y]
        exact ih2 _ _ _ (by omega) _ (h.app _)
      · rw [← hr'] at x
        rw [wlk_last a b.1 b.2 d x (hr.2 y)]
      · rw [← hr'] at x z
        rw [wlk_on a b.1 b.2 d y x z]
        exact ih _ _ h
    | dot hn h =>
      by_cases a : srE t wh0 i = 0
      · rw [wlk_dot a rfl]
        exact ih _ _ h
      · rw [wlk_sr a]
        cases l with
        | nil => exact absurd rfl hn
        | cons m l => rw [wlk_sr a]
def dotP : List UInt8 → List UInt8
  | [] => []
  | c :: r => if c = 47 then 47 :: 46 :: 47 :: dotP r else c :: dotP r
theorem dotP_app (c : UInt8) : ∀ a : List UInt8, dotP (a ++ [c]) = dotP a ++ if c = 47 then [47, 46, 47] else [c]
  | [] => by
    by_cases h : c = 47 <;> simp [dotP, h]
  | b :: a => by
    rw [List.cons_append, dotP, dotP, dotP_app c a]
    split
    · rfl
    · rfl
theorem dotP_len : ∀ p : List UInt8, (dotP p).length ≤ 3 * p.length
  | [] => Nat.le_refl _
  | c :: r => by
    have := dotP_len r
    rw [dotP]
    split
    · simp only [List.length_cons]; omega
    · simp only [List.length_cons]; omega
theorem dotP_nil {p : List UInt8} : dotP p = [] ↔ p = [] := by
  cases p with
  | nil => exact ⟨fun _ => rfl, fun _ => rfl⟩
  | cons c r =>
    rw [dotP]
    split
    · exact ⟨fun h => (by cases h), fun h => (by cases h)⟩
    · exact ⟨fun h => (by cases h), fun h => (by cases h)⟩
theorem dotP_zero : ∀ p : List UInt8, (dotP p).contains 0 = p.contains 0
  | [] => rfl
  | c :: r => by
    have := dotP_zero r
    rw [dotP]
    split
    · rename_i h
      subst h
      simp only [List.contains_cons, this]
      rfl
    · simp only [List.contains_cons, this]
/-- A slash at the end is a name more. -/
def tailN (p : List UInt8) : List Nm := if p.getLast? = some 47 then [[46]] else []
theorem tailN_byte {c : UInt8} (h : ¬ c = 47) (r : List UInt8) : tailN (c :: r) = tailN r := by
  unfold tailN
  cases r with
  | nil => rw [if_neg (by simpa using h), if_neg (by simp)]
  | cons d r => rw [List.getLast?_cons_cons]
theorem tailN_cons (c : UInt8) {r : List UInt8} (h : r ≠ []) : tailN (c :: r) = tailN r := by
  unfold tailN
  cases r with
  | nil => exact absurd rfl h
  | cons d r => rw [List.getLast?_cons_cons]
theorem some_name : ∀ (r cur : List UInt8), (cur ≠ [] ∨ r ≠ []) → npF cur r ++ tailN r ≠ []
  | [], cur, h => by
    have h : cur ≠ [] := h.resolve_right (fun q => q rfl)
    rw [npF, if_neg h]
    exact fun q => by cases q
  | c :: r, cur, h => by
    by_cases hc : c = 47
    · subst hc
      rw [npF, if_pos rfl]
      split
      · by_cases hr : r = []
        · subst hr
          show npF [] [] ++ tailN [47] ≠ []
          decide
        · rw [tailN_cons _ hr]
          exact some_name r [] (.inr hr)
      · exact fun q => by cases q
    · rw [npF, if_neg hc, tailN_byte hc]
      exact some_name r _ (.inl (by simp))
theorem npF_dot (d : List UInt8) : npF [] (46 :: 47 :: d) = [46] :: npF [] d := by
  rw [npF, if_neg (by decide), npF, if_pos rfl, if_neg (by simp)]
  rfl
theorem dts_path : ∀ (p cur : List UInt8), Dts (npF cur p ++ tailN p) (npF cur (dotP p) ++ tailN (dotP p))
  | [], cur => Dts.refl _
  | c :: r, cur => by
    by_cases hc : c = 47
    · subst hc
      have e1 : npF cur (47 :: r) = (if cur = [] then [] else [cur]) ++ npF [] r := by
        rw [npF, if_pos rfl]
        split <;> rfl
      have e2 : npF cur (dotP (47 :: r)) = (if cur = [] then [] else [cur]) ++ [46] :: npF [] (dotP r) := by
        rw [dotP, if_pos rfl, npF, if_pos rfl, npF_dot]
        split <;> rfl
      rw [e1, e2, List.append_assoc, List.append_assoc]
      refine Dts.app ?_ _
      by_cases hr : r = []
      · subst hr
        show Dts ([] ++ tailN [47]) ([[46]] ++ tailN [47, 46, 47])
        have h1 : tailN [47] = [[46]] := by decide
        have h2 : tailN [47, 46, 47] = [[46]] := by decide
        rw [h1, h2]
        exact .dot (by simp) (Dts.refl _)
      · have hd : dotP r ≠ [] := fun q => hr (dotP_nil.1 q)
        have e3 : tailN (dotP (47 :: r)) = tailN (dotP r) := by
          rw [dotP, if_pos rfl, tailN_cons _ (by simp), tailN_cons _ (by simp), tailN_cons _ hd]
        rw [tailN_cons _ hr, e3]
        exact .dot (some_name r [] (.inr hr)) (dts_path r [])
    · have e1 : dotP (c :: r) = c :: dotP r := by rw [dotP, if_neg hc]
      rw [e1, npF, if_neg hc, npF, if_neg hc, tailN_byte hc, tailN_byte hc]
      exact dts_path r _
/-- From the root, a dot behind no name changes nothing. -/
theorem wlk_split {t : List Nd} (h : (tget t 1).kind = 2) (f : Bool) (k : Nat) (p : List UInt8) : wlk t wh0 f k (splitP p) 1 = wlk t wh0 f k (nms p ++ tailN p) 1 := by
  unfold splitP tailN
  by_cases q : p.getLast? = some 47
  · by_cases q2 : nms p = []
    · rw [if_neg (fun e => e.1 q2), if_pos q, q2, wlk_nil, List.nil_append, wlk_dot (by rw [sr_root, if_neg (fun e => e h)]) rfl, wlk_nil]
    · rw [if_pos ⟨q2, q⟩, if_pos q]
  · rw [if_neg (fun e => q e.2), if_neg q, List.append_nil]
theorem dir_tis {t : List Nd} (h : (tget t 1).kind = 2) : tis t 1 = true := kind_tis h
theorem contains_false {p : Nm} : ¬ p.contains 0 = true → p.contains 0 = false := by simp
theorem fit_of {t : List Nd} {p q : Nm} (_h : (tget t 1).kind = 2) (hp : p ≠ []) (hq : q ≠ []) (lp : p.length ≤ 64) (lq : q.length ≤ 64) (hc : q.contains 0 = p.contains 0) : fitE t q = fitE t p := by
  unfold fitE
  rw [if_neg hp, if_neg hq, if_neg (show ¬ 64 < p.length by omega), if_neg (show ¬ 64 < q.length by omega), hc]
theorem res_dots {t : List Nd} (h : (tget t 1).kind = 2) (f : Bool) {p : Nm} (hl : p.length ≤ 20) : resM t wh0 (dotP p) f = resM t wh0 p f := by
  by_cases hp : p = []
  · subst hp
    rfl
  · have hd : dotP p ≠ [] := fun q => hp (dotP_nil.1 q)
    have := dotP_len p
    unfold resM
    rw [fit_of h hp hd (by omega) (by omega) (dotP_zero p), wlk_split h, wlk_split h, wlk_dts t f 8 _ 1 _ (show Dts (nms p ++ tailN p) (nms (dotP p) ++ tailN (dotP p)) from dts_path p [])]
theorem nms_sl1 (p : List UInt8) : nms (47 :: p) = nms p := by
  show npF [] (47 :: p) = npF [] p
  rw [npF, if_pos rfl, if_pos rfl]
theorem res_slash {t : List Nd} (h : (tget t 1).kind = 2) (f : Bool) {p : Nm} (hp : p ≠ []) (hl : p.length ≤ 20) : resM t wh0 (47 :: p) f = resM t wh0 p f := by
  unfold resM
  rw [fit_of h hp (by simp) (by omega) (by rw [List.length_cons]; omega) (by rw [List.contains_cons]; rfl), wlk_split h, wlk_split h, nms_sl1, tailN_cons _ hp]
theorem res_none (t : List Nd) (c : Wh) (f : Bool) : resM t c [] f = (Fo.zero, 2) := rfl
theorem res_top {t : List Nd} (h : (tget t 1).kind = 2) (c : Wh) (f : Bool) : resM t c [47] f = (⟨1, [], 1⟩, 0) := by
  have h1 : fitE t [47] = 0 := by
    unfold fitE
    rw [if_neg (by simp), if_neg (by decide), if_neg (by decide), kind_tis h, if_neg (by decide)]
  unfold resM
  rw [if_neg (fun q => q h1)]
  have h2 : splitP [47] = [] := by decide
  rw [h2, wlk_nil]

/-! A path in two parts. -/
/-- A name is looked for where a path has led. -/
def thn (t : List Nd) (c : Wh) (n : Nm) (R : Fo × Int) : Fo × Int :=
  if R.2 ≠ 0 then (Fo.zero, R.2) else if R.1.node = 0 then (Fo.zero, 2) else if srE t c R.1.node ≠ 0 then (Fo.zero, srE t c R.1.node) else (⟨R.1.node, n, fnd (tget t R.1.node).ents n⟩, 0)
theorem wlk_one {t : List Nd} {c : Wh} {n : Nm} (h1 : n ≠ [46]) (h2 : n ≠ [46, 46]) (h3 : ¬ 12 < n.length) (k : Nat) {i : Int} (hi : i ≠ 0) (x : Int) (m : Nm) : wlk t c false k [n] i = thn t c n (⟨x, m, i⟩, 0) := by
  unfold thn
  rw [if_neg (fun q => q rfl), if_neg hi]
  split
  · rename_i a
    exact wlk_sr a
  · rename_i a
    have a : srE t c i = 0 := Classical.byContradiction a
    exact wlk_last a h1 h2 h3 (fun q => q.2.elim (fun q => by cases q) (fun q => q rfl)) rfl
theorem up_ne {t : List Nd} {i : Int} (h : i ≠ 0) : upI t i ≠ 0 := by
  unfold upI
  split
  · omega
  · exact h
theorem zero_kind (t : List Nd) : (tget t 0).kind = 0 := by
  rw [tget_out (by omega)]
  rfl
theorem wlk_thn {t : List Nd} {c : Wh} {n : Nm} (h1 : n ≠ [46]) (h2 : n ≠ [46, 46]) (h3 : ¬ 12 < n.length) : ∀ k l i, i ≠ 0 → wlk t c false k (l ++ [n]) i = thn t c n (wlk t c true k l i) := by
  refine wlk_ind (fun k i hi => ?_) (fun k m r i ih ih2 hi => ?_)
  · rw [wlk_nil]
    exact wlk_one h1 h2 h3 k hi _ _
  · have hne : r ++ [n] ≠ [] := by simp
    have hl : ∀ (l : List Nm) (e : Int), e ≠ 0 → thn t c n (Fo.zero, e) = (Fo.zero, e) := fun l e he => by
      unfold thn
      rw [if_pos he]
    rw [List.cons_append]
    rcases wlk_step t c true k m r i with ⟨a, e⟩ | ⟨a, b, e⟩ | ⟨a, b, e⟩ | ⟨a, b, d, e⟩ | ⟨a, b, d, ⟨x, y, e⟩ | ⟨x, y, ⟨z, e⟩ | ⟨j, hj, e⟩⟩ | ⟨x, y, e⟩ | ⟨x, y, z, e⟩⟩ <;> rw [e]
    · rw [wlk_sr a, hl r _ a]
    · rw [wlk_dot a b]
      exact ih _ hi
    · rw [wlk_up a b]
      exact ih _ (up_ne hi)
    · rw [wlk_long a b.1 b.2 d, hl r _ (by decide)]
    · rw [wlk_gone a b.1 b.2 d x hne, hl r _ (by decide)]
    · have hz : fnd (tget t i).ents m ≠ 0 := fun q => by
        have h := y.1
        rw [q, zero_kind] at h
        exact absurd h (by decide)
      subst z
      rw [wlk_loop a b.1 b.2 d (fun q => hz q.1) ⟨y.1, .inr hne⟩, hl r _ (by decide)]
    · have hz : fnd (tget t i).ents m ≠ 0 := fun q => by
        have h := y.1
        rw [q, zero_kind] at h
        exact absurd h (by decide)
      subst hj
      rw [wlk_link a b.1 b.2 d (fun q => hz q.1) ⟨y.1, .inr hne⟩, ← List.append_assoc]
      refine ih2 _ _ _ (by omega) ?_
      split
      · decide
      · exact hi
    · have hk : ¬ (tget t (fnd (tget t i).ents m)).kind = 3 := fun q => x ⟨q, .inl rfl⟩
      subst y
      by_cases hz : fnd (tget t i).ents m = 0
      · rw [List.nil_append, wlk_gone a b.1 b.2 d hz (by simp)]
        unfold thn
        rw [if_neg (fun q => q rfl), if_pos hz]
      · rw [List.nil_append, wlk_on a b.1 b.2 d hz (fun q => hk q.1) (by simp)]
        exact wlk_one h1 h2 h3 k hz _ _
    · have hk : ¬ (tget t (fnd (tget t i).ents m)).kind = 3 := fun q => x ⟨q, .inl rfl⟩
      rw [wlk_on a b.1 b.2 d y (fun q => hk q.1) hne]
      exact ih _ y
theorem res_parts {t : List Nd} (h : (tget t 1).kind = 2) (c : Wh) {p n : Nm} (hp : p ≠ []) (he : ¬ p.getLast? = some 47) (lp : p.length ≤ 40) (hn : nok n = true) : resM t c (joinP p n) false = thn t c n (resM t c p true) := by
  have hb : badN n = false ∧ n.length ≤ 12 := by simpa [nok] using hn
  have hb1 := hb.1
  unfold badN at hb1
  simp only [Bool.or_eq_false_iff, beq_eq_false_iff_ne] at hb1
  obtain ⟨⟨⟨⟨h0, h1⟩, h2⟩, h4⟩, h5⟩ := hb1
  have hs : noSl n := fun x hx q => by
    subst q
    have : n.contains 47 = true := by simpa using hx
    rw [this] at h4
    cases h4
  have e1 : joinP p n = p ++ 47 :: n := join_eq hp he
  have e2 : splitP (p ++ 47 :: n) = splitP p ++ [n] := by
    rw [split_same he, split_same (cons_last p n hs h0), join_nms hs h0]
  have e3 : (p ++ 47 :: n).contains 0 = p.contains 0 := by
    have h5' : ¬ (0 : UInt8) ∈ n := by simpa using h5
    rw [Bool.eq_iff_iff]
    simp [h5']
  have hl := hb.2
  unfold resM
  rw [e1, fit_of h hp (by simp) (by omega) (by simp only [List.length_append, List.length_cons]; omega) e3, e2]
  split
  · rename_i q
    unfold thn
    rw [if_pos q]
  · exact wlk_thn h1 h2 (by omega) 8 _ 1 (by decide)
end Go.Proofs.YtilepnepcamnaaaGreat
