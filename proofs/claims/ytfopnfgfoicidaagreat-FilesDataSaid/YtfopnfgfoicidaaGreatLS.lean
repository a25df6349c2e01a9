/-
  What is told of a node, as mathematics and in memory; node.Size, node.Names. The conditions are said at each.
-/
import Derived.Test.YtfopnfgfoicidaaGreatRM
import Derived.Test.YtfopnfgfoicidaaGreatBR
import Derived.Test.YtfopnfgfoicidaaGreatBC
import Derived.Test.YtfopnfgfoicidaaGreatShelf
namespace Go.Proofs.YtfopnfgfoicidaaGreat
open Go Go.RowKit
set_option maxRecDepth 100000

/-- What is told of a node. -/
structure Sta where
  node : Int
  kind : Int
  mode : Int
  uid : Int
  gid : Int
  links : Int
  size : Int
def Sta.zero : Sta := ⟨0, 0, 0, 0, 0, 0, 0⟩
def staT (t : List Nd) (i : Int) : Sta := if tis t i = true then ⟨i, (tget t i).kind, (tget t i).mode, (tget t i).uid, (tget t i).gid, (linkT t i : Int), sizM (tget t i)⟩ else Sta.zero
/-- What is told where a path leads. -/
def staF (t : List Nd) (R : Fo × Int) : Sta × Int := if R.2 ≠ 0 then (Sta.zero, R.2) else if tis t R.1.node = true then (staT t R.1.node, 0) else (Sta.zero, 2)
def staM (t : List Nd) (c : Wh) (p : Nm) (f : Bool) : Sta × Int := staF t (resM t c p f)
def rdlM (t : List Nd) (c : Wh) (p : Nm) : Nm × Int :=
  if (staM t c p false).2 ≠ 0 then ([], (staM t c p false).2) else if (staM t c p false).1.kind ≠ 3 then ([], 22) else ((tget t (staM t c p false).1.node).target, 0)
def lstM (t : List Nd) (c : Wh) (p : Nm) : List Nm × Int :=
  if (staM t c p true).2 ≠ 0 then ([], (staM t c p true).2) else if (staM t c p true).1.kind ≠ 2 then ([], 20) else if canT t c (staM t c p true).1.node 4 = false then ([], 13) else (nmE (tget t (staM t c p true).1.node).ents, 0)
theorem sta_is {t : List Nd} {i : Int} (h : tis t i = true) : staT t i = ⟨i, (tget t i).kind, (tget t i).mode, (tget t i).uid, (tget t i).gid, (linkT t i : Int), sizM (tget t i)⟩ := if_pos h
theorem sta_not {t : List Nd} {i : Int} (h : tis t i = false) : staT t i = Sta.zero := if_neg (by rw [h]; decide)
theorem sta_node {t : List Nd} {i : Int} (h : tis t i = true) : (staT t i).node = i := by rw [sta_is h]
theorem sta_kind {t : List Nd} {i : Int} (h : tis t i = true) : (staT t i).kind = (tget t i).kind := by rw [sta_is h]
theorem tis_kind0 {t : List Nd} {i : Int} (h : tis t i = true) : (tget t i).kind ≠ 0 := of_decide_eq_true h
/-- Something is told: of which node. -/
theorem staF_zero {t : List Nd} {R : Fo × Int} (h : (staF t R).2 = 0) : R.2 = 0 ∧ tis t R.1.node = true ∧ staF t R = (staT t R.1.node, 0) := by
  unfold staF at h ⊢
  by_cases q : R.2 = 0
  · rw [if_neg (fun r => r q)] at h ⊢
    by_cases q2 : tis t R.1.node = true
    · rw [if_pos q2]
      exact ⟨q, q2, rfl⟩
    · rw [if_neg q2] at h
      exact absurd h (by decide)
  · rw [if_pos q] at h
    exact absurd h q
theorem staF_good {t : List Nd} {R : Fo × Int} (h : R.2 = 0) (hi : tis t R.1.node = true) : staF t R = (staT t R.1.node, 0) := by
  unfold staF
  rw [if_neg (fun q => q h), if_pos hi]
theorem staF_err {t : List Nd} {R : Fo × Int} (h : R.2 ≠ 0) : staF t R = (Sta.zero, R.2) := if_pos h
theorem staM_zero {t : List Nd} {c : Wh} {p : Nm} {f : Bool} (h : (staM t c p f).2 = 0) :
    (resM t c p f).2 = 0 ∧ tis t (staM t c p f).1.node = true ∧ (resM t c p f).1.node = (staM t c p f).1.node ∧ (staM t c p f).1 = staT t (staM t c p f).1.node := by
  obtain ⟨h1, h2, h3⟩ := staF_zero h
  have e1 : (staM t c p f).1 = staT t (resM t c p f).1.node := by unfold staM; rw [h3]
  have e2 : (staM t c p f).1.node = (resM t c p f).1.node := by rw [e1, sta_node h2]
  refine ⟨h1, by rw [e2]; exact h2, e2.symm, by rw [e2]; exact e1⟩
/-- What is told by the reference: a node that is 0 is none. -/
theorem found_tis {t : List Nd} (h : Trx t) (c : Wh) (p : Nm) (f : Bool) (hz : (resM t c p f).2 = 0) (hn : (resM t c p f).1.node ≠ 0) : tis t (resM t c p f).1.node = true := by
  have hs := res_srd h c p f hz
  by_cases q : (resM t c p f).1.name = []
  · rw [← hs.self q]
    exact kind_tis hs.kind
  · have h2 := (hs.found q).2
    rw [← h2] at hn ⊢
    have hm : (resM t c p f).1.name ∈ nmE (tget t (resM t c p f).1.dir).ents := Classical.byContradiction (fun r => hn (fnd_none r))
    obtain ⟨e, he, -, e2⟩ := fnd_some hm
    rw [e2]
    exact (h.num _).2 (h.here _ e he)
theorem zero_tis (t : List Nd) : tis t 0 = false := by
  unfold tis
  rw [zero_kind]
  rfl
theorem staM_ref {t : List Nd} (h : Trx t) (c : Wh) (p : Nm) (f : Bool) : staM t c p f = if (resM t c p f).2 ≠ 0 then (Sta.zero, (resM t c p f).2) else if (resM t c p f).1.node = 0 then (Sta.zero, 2) else (staT t (resM t c p f).1.node, 0) := by
  unfold staM staF
  split
  · rfl
  · rename_i q
    have q : (resM t c p f).2 = 0 := Classical.byContradiction q
    by_cases q2 : (resM t c p f).1.node = 0
    · rw [if_pos q2, q2, if_neg (by rw [zero_tis]; decide)]
    · rw [if_neg q2, if_pos (found_tis h c p f q q2)]

/-! Root, and others. -/
theorem staM_root (t : List Nd) (c : Wh) (p : Nm) (f : Bool) : staM t c p f = staM t wh0 p f ∨ staM t c p f = (Sta.zero, 13) := by
  rcases res_root t c p f with h | h
  · exact .inl (by unfold staM; rw [h])
  · refine .inr ?_
    unfold staM
    rw [h]
    rfl
theorem staM_same {t : List Nd} {c : Wh} {p : Nm} {f : Bool} (h : (staM t c p f).2 = 0) : staM t wh0 p f = staM t c p f := by
  rcases staM_root t c p f with q | q
  · exact q.symm
  · rw [q] at h
    exact absurd h (by decide)
theorem res_same {t : List Nd} {c : Wh} {p : Nm} {f : Bool} (h : (resM t c p f).2 = 0) : resM t wh0 p f = resM t c p f := by
  rcases res_root t c p f with q | q
  · exact q.symm
  · rw [q] at h
    exact absurd h (by decide)
theorem link_node {t : List Nd} (h : Trx t) {i : Int} (hi : tis t i = true) : i = 1 ∨ 1 ≤ linkT t i := by
  have h1 := (h.num i).1 hi
  by_cases q : i = 1
  · exact .inl q
  · exact .inr (h.link i (by omega) h1.2).1

/-! A path in parts: all but the last one are taken whether the last one is followed or not. -/
theorem wlk_pre (t : List Nd) (c : Wh) : ∀ k a i, i ≠ 0 → (∃ e, e ≠ 0 ∧ ∀ f r, r ≠ [] → wlk t c f k (a ++ r) i = (Fo.zero, e)) ∨ (∃ k' j, k' ≤ k ∧ j ≠ 0 ∧ ∀ f r, r ≠ [] → wlk t c f k (a ++ r) i = wlk t c f k' r j) := by
  refine wlk_ind (fun k i hi => .inr ⟨k, i, Nat.le_refl _, hi, fun _ _ _ => rfl⟩) (fun k n r i ih ih2 hi => ?_)
  have hne : ∀ x : List Nm, x ≠ [] → r ++ x ≠ [] := fun x hx q => hx (List.append_eq_nil_iff.1 q).2
  by_cases h : srE t c i = 0
  · by_cases h1 : n = [46]
    · rcases ih i hi with ⟨e, he, hw⟩ | ⟨k', j, hk, hj, hw⟩
      · exact .inl ⟨e, he, fun f x hx => by rw [List.cons_append, wlk_dot h h1]; exact hw f x hx⟩
      · exact .inr ⟨k', j, hk, hj, fun f x hx => by rw [List.cons_append, wlk_dot h h1]; exact hw f x hx⟩
    by_cases h2 : n = [46, 46]
    · rcases ih (upI t i) (up_ne hi) with ⟨e, he, hw⟩ | ⟨k', j, hk, hj, hw⟩
      · exact .inl ⟨e, he, fun f x hx => by rw [List.cons_append, wlk_up h h2]; exact hw f x hx⟩
      · exact .inr ⟨k', j, hk, hj, fun f x hx => by rw [List.cons_append, wlk_up h h2]; exact hw f x hx⟩
    by_cases h3 : 12 < n.length
    · exact .inl ⟨36, by decide, fun f x hx => by rw [List.cons_append, wlk_long h h1 h2 h3]⟩
    by_cases h4 : fnd (tget t i).ents n = 0
    · exact .inl ⟨2, by decide, fun f x hx => by rw [List.cons_append, wlk_gone h h1 h2 h3 h4 (hne x hx)]⟩
    by_cases h5 : (tget t (fnd (tget t i).ents n)).kind = 3
    · cases k with
      | zero => exact .inl ⟨40, by decide, fun f x hx => by rw [List.cons_append, wlk_loop h h1 h2 h3 (fun q => h4 q.1) ⟨h5, .inr (hne x hx)⟩]⟩
      | succ k =>
        have hj0 : (if absP (tget t (fnd (tget t i).ents n)).target = true then 1 else i) ≠ 0 := by
          split
          · decide
          · exact hi
        rcases ih2 k (splitP (tget t (fnd (tget t i).ents n)).target ++ r) _ (Nat.lt_succ_self _) hj0 with ⟨e, he, hw⟩ | ⟨k', j, hk, hj, hw⟩
        · exact .inl ⟨e, he, fun f x hx => by rw [List.cons_append, wlk_link h h1 h2 h3 (fun q => h4 q.1) ⟨h5, .inr (hne x hx)⟩, ← List.append_assoc]; exact hw f x hx⟩
        · exact .inr ⟨k', j, by omega, hj, fun f x hx => by rw [List.cons_append, wlk_link h h1 h2 h3 (fun q => h4 q.1) ⟨h5, .inr (hne x hx)⟩, ← List.append_assoc]; exact hw f x hx⟩
    · rcases ih _ h4 with ⟨e, he, hw⟩ | ⟨k', j, hk, hj, hw⟩
      · exact .inl ⟨e, he, fun f x hx => by rw [List.cons_append, wlk_on h h1 h2 h3 h4 (fun q => h5 q.1) (hne x hx)]; exact hw f x hx⟩
      · exact .inr ⟨k', j, hk, hj, fun f x hx => by rw [List.cons_append, wlk_on h h1 h2 h3 h4 (fun q => h5 q.1) (hne x hx)]; exact hw f x hx⟩
  · exact .inl ⟨_, h, fun f x hx => by rw [List.cons_append, wlk_sr h]⟩
/-- More links may be followed: the same, unless there were too many. -/
theorem wlk_more (t : List Nd) (c : Wh) (f : Bool) : ∀ k l i, (wlk t c f k l i).2 ≠ 40 → wlk t c f (k + 1) l i = wlk t c f k l i := by
  refine wlk_ind (fun k i _ => by rw [wlk_nil, wlk_nil]) (fun k n r i ih ih2 h => ?_)
  rcases wlk_step t c f k n r i with ⟨a, e⟩ | ⟨a, b, e⟩ | ⟨a, b, e⟩ | ⟨a, b, d, e⟩ | ⟨a, b, d, ⟨x, y, e⟩ | ⟨x, y, ⟨z, e⟩ | ⟨j, hj, e⟩⟩ | ⟨x, y, e⟩ | ⟨x, y, z, e⟩⟩ <;> rw [e] at h ⊢
  · rw [wlk_sr a]
  · rw [wlk_dot a b]
    exact ih _ h
  · rw [wlk_up a b]
    exact ih _ h
  · rw [wlk_long a b.1 b.2 d]
  · rw [wlk_gone a b.1 b.2 d x y]
  · exact absurd rfl h
  · subst hj
    rw [wlk_link a b.1 b.2 d x y]
    exact ih2 j _ _ (Nat.lt_succ_self _) h
  · rw [wlk_last a b.1 b.2 d x y]
  · rw [wlk_on a b.1 b.2 d y x z]
    exact ih _ h
theorem wlk_much (t : List Nd) (c : Wh) (f : Bool) (k : Nat) (l : List Nm) (i : Int) (h : (wlk t c f k l i).2 ≠ 40) : ∀ m, wlk t c f (k + m) l i = wlk t c f k l i
  | 0 => rfl
  | m + 1 => by
    have ih := wlk_much t c f k l i h m
    rw [← Nat.add_assoc, wlk_more t c f (k + m) l i (by rw [ih]; exact h), ih]

/-! Names. -/
structure Nok (n : Nm) : Prop where
  len : ¬ 12 < n.length
  ne : ¬ n = []
  dot : n ≠ [46]
  dots : n ≠ [46, 46]
  sl : noSl n
  nul : n.contains 0 = false
theorem nok_nok {n : Nm} (hn : nok n = true) : Nok n := by
  have hb : badN n = false ∧ n.length ≤ 12 := by simpa [nok] using hn
  have hb1 := hb.1
  unfold badN at hb1
  simp only [Bool.or_eq_false_iff, beq_eq_false_iff_ne] at hb1
  obtain ⟨⟨⟨⟨h0, h1⟩, h2⟩, h4⟩, h5⟩ := hb1
  refine ⟨by have := hb.2; omega, h0, h1, h2, fun x hx q => ?_, h5⟩
  subst q
  have : n.contains 47 = true := by simpa using hx
  rw [this] at h4
  cases h4
theorem last_sl {p : Nm} (h : p.getLast? = some 47) : ∃ a, p = a ++ [47] := by
  rw [List.getLast?_eq_some_iff] at h
  exact h
/-- The names of a path, and what is behind it. -/
theorem join_names (d n : Nm) : nms (joinP d n) = nms d ++ nms n := by
  unfold joinP
  split
  · rename_i h
    rcases h with h | h
    · subst h
      rfl
    · obtain ⟨a, rfl⟩ := last_sl h
      rw [List.append_assoc, List.singleton_append, nms_slash, nms_slash, nms_nil, List.append_nil]
  · rw [nms_slash]
theorem last_app (a : Nm) {n : Nm} (hn : n ≠ []) : (a ++ n).getLast? = n.getLast? := by
  rw [List.getLast?_append]
  cases h : n.getLast? with
  | none => exact absurd (List.getLast?_eq_none_iff.1 h) hn
  | some x => rfl
theorem join_last (d : Nm) {n : Nm} (hn : n ≠ []) : (joinP d n).getLast? = n.getLast? := by
  unfold joinP
  split
  · exact last_app _ hn
  · rw [List.append_cons]
    exact last_app _ hn
theorem nms_rel {n : Nm} (hn : n ≠ []) (ha : absP n = false) : nms n ≠ [] := by
  cases n with
  | nil => exact absurd rfl hn
  | cons c r =>
    have hc : ¬ c = 47 := fun q => by subst q; rw [show absP (47 :: r) = true from rfl] at ha; cases ha
    have hne : ∀ (r cur : List UInt8), cur ≠ [] → npF cur r ≠ [] := by
      intro r
      induction r with
      | nil => intro cur h; rw [npF, if_neg h]; simp
      | cons b r ih =>
        intro cur h
        rw [npF]
        split
        · simp
        · exact ih _ (by simp)
    unfold nms
    rw [npF, if_neg hc]
    exact hne r _ (by simp)
theorem split_rel {d n : Nm} (hn : n ≠ []) (ha : absP n = false) : splitP (joinP d n) = nms d ++ splitP n := by
  have h1 := nms_rel hn ha
  unfold splitP
  rw [join_names, join_last d hn]
  by_cases q : n.getLast? = some 47
  · rw [if_pos ⟨fun r => h1 (List.append_eq_nil_iff.1 r).2, q⟩, if_pos ⟨h1, q⟩, List.append_assoc]
  · rw [if_neg (fun r => q r.2), if_neg (fun r => q r.2)]
theorem nok_last {n : Nm} (h : Nok n) : ¬ n.getLast? = some 47 := fun q => by
  obtain ⟨a, e⟩ := last_sl q
  exact h.sl 47 (by rw [e]; simp) rfl
theorem split_nok {n : Nm} (h : Nok n) : splitP n = [n] := by rw [split_same (nok_last h), nms_plain h.sl h.ne]
theorem nok_abs {n : Nm} (h : Nok n) : absP n = false := by
  cases n with
  | nil => rfl
  | cons c r =>
    have hc := h.sl c (List.mem_cons_self ..)
    unfold absP
    rw [List.head?_cons]
    simpa using hc
theorem split_name {d n : Nm} (h : Nok n) : splitP (joinP d n) = nms d ++ [n] := by
  rw [split_rel h.ne (nok_abs h), split_nok h]
theorem join_ne {d n : Nm} (hn : n ≠ []) : joinP d n ≠ [] := by
  unfold joinP
  split
  · exact fun q => hn (List.append_eq_nil_iff.1 q).2
  · exact fun q => by simp at q
theorem join_len (d n : Nm) : (joinP d n).length ≤ d.length + n.length + 1 := by
  unfold joinP
  split
  · rw [List.length_append]; omega
  · rw [List.length_append, List.length_cons]; omega
theorem join_nul (d n : Nm) : (joinP d n).contains 0 = (d.contains 0 || n.contains 0) := by
  have h : (0 : UInt8) ≠ 47 := by decide
  rw [Bool.eq_iff_iff]
  unfold joinP
  split <;> simp
theorem fit_why {t : List Nd} {p : Nm} : fitE t p = 0 ↔ p ≠ [] ∧ ¬ 64 < p.length ∧ p.contains 0 = false ∧ tis t 1 = true := by
  unfold fitE
  by_cases h1 : p = []
  · simp [h1]
  by_cases h2 : 64 < p.length
  · simp [h1, h2]
  cases h3 : p.contains 0
  · cases h4 : tis t 1 <;> simp [h1, h2]
  · simp [h1, h2]

/-! A name below a path. -/
theorem res_below {t : List Nd} (h : (tget t 1).kind = 2) {c : Wh} {p n : Nm} {F : Fo} (lp : p.length ≤ 40) (hn : nok n = true) (hr : resM t c p true = (F, 0)) (hk : (tget t F.node).kind = 2) : resM t c (joinP p n) false = thn t c n (F, 0) := by
  have hN := nok_nok hn
  have hp : p ≠ [] := fun q => by
    rw [q, res_none] at hr
    injection hr with _ h2
    exact absurd h2 (by decide)
  by_cases he : p.getLast? = some 47
  · have hf : fitE t p = 0 := by
      rcases Int.decEq (fitE t p) 0 with q | q
      · unfold resM at hr
        rw [if_pos q] at hr
        injection hr with _ h2
      · exact q
    obtain ⟨f1, f2, f3, f4⟩ := fit_why.1 hf
    have hf2 : fitE t (joinP p n) = 0 := fit_why.2 ⟨join_ne hN.ne, by have := join_len p n; have := hN.len; omega, by rw [join_nul, f3, hN.nul]; rfl, f4⟩
    have hw : wlk t c true 8 (splitP p) 1 = (F, 0) := by
      unfold resM at hr
      rw [if_neg (fun q => q hf)] at hr
      exact hr
    have hd0 : F.node ≠ 0 := fun q => by rw [q, zero_kind] at hk; exact absurd hk (by decide)
    have key : ∀ k' j, j ≠ 0 → j = F.node → wlk t c false k' [n] j = thn t c n (F, 0) := fun k' j hj e => by
      rw [wlk_one hN.dot hN.dots hN.len k' hj 0 [], e]
      unfold thn
      rfl
    unfold resM
    rw [if_neg (fun q => q hf2), split_name hN]
    by_cases h0 : nms p = []
    · rw [h0, List.nil_append]
      have e1 : splitP p = [] := by unfold splitP; rw [h0]; rfl
      rw [e1, wlk_nil] at hw
      injection hw with hw _
      exact key 8 1 (by decide) (by rw [← hw])
    · have e1 : splitP p = nms p ++ [[46]] := by unfold splitP; rw [if_pos ⟨h0, he⟩]
      rw [e1] at hw
      rcases wlk_pre t c 8 (nms p) 1 (by decide) with ⟨e, he, hh⟩ | ⟨k', j, hk', hj, hh⟩
      · rw [hh true [[46]] (by simp)] at hw
        injection hw with _ h2
        exact absurd h2 he
      · rw [hh false [n] (by simp)]
        rw [hh true [[46]] (by simp)] at hw
        refine key k' j hj ?_
        by_cases hs : srE t c j = 0
        · rw [wlk_dot hs rfl, wlk_nil] at hw
          injection hw with hw _
          rw [← hw]
        · rw [wlk_sr hs] at hw
          injection hw with _ h2
          exact absurd h2 hs
  · rw [res_parts h c hp he lp hn, hr]
/-- Each name that a directory has, of what there is below it. -/
theorem sta_below {t : List Nd} (h : Trx t) {c : Wh} {p : Nm} {e : En} (lp : p.length ≤ 40) (hz : (staM t c p true).2 = 0) (hk : (staM t c p true).1.kind = 2) (he : e ∈ (tget t (staM t c p true).1.node).ents) :
    ∃ s : Sta, (s.node ≠ 0 ∧ 1 ≤ s.links) ∧ staM t wh0 (joinP p e.1) false = (s, 0) ∧ (staM t c (joinP p e.1) false = (Sta.zero, 13) ∨ staM t c (joinP p e.1) false = (s, 0)) := by
  obtain ⟨h1, h2, h3, h4⟩ := staM_zero hz
  generalize (staM t c p true).1 = S at hk he h2 h3 h4
  obtain ⟨d, hd⟩ : ∃ d, S.node = d := ⟨_, rfl⟩
  rw [hd] at he h2 h3 h4
  rw [h4, sta_kind h2] at hk
  have hok : nok e.1 = true ∧ rise (nmE (tget t d).ents) := by
    rcases (tis_right h.ok h2).2 with q | q | q
    · rw [q.1] at hk; exact absurd hk (by decide)
    · exact ⟨(q.2.2.2.1 e he).1, q.2.2.2.2.1⟩
    · rw [q.1] at hk; exact absurd hk (by decide)
  have hfe : fnd (tget t d).ents e.1 = e.2 := fnd_at hok.2 he
  have hee := h.here d e he
  have hie : tis t e.2 = true := (h.num _).2 hee
  obtain ⟨F, hF⟩ : ∃ F, F = (resM t c p true).1 := ⟨_, rfl⟩
  have hR : resM t c p true = (F, 0) := by rw [hF, ← h1]
  have hn : F.node = d := by rw [hF]; exact h3
  have hkF : (tget t F.node).kind = 2 := by rw [hn]; exact hk
  have hR0 : resM t wh0 p true = (F, 0) := by rw [res_same h1, hR]
  have r1 := res_below h.one (n := e.1) lp hok.1 hR hkF
  have r0 := res_below h.one (n := e.1) lp hok.1 hR0 hkF
  have t0 : thn t wh0 e.1 (F, 0) = (⟨d, e.1, e.2⟩, 0) := by
    unfold thn
    rw [if_neg (fun q => q rfl), hn, if_neg (fun q => by rw [q, zero_kind] at hk; exact absurd hk (by decide)), sr_root, hk, if_neg (fun q => q rfl), hfe]
  have t1 : thn t c e.1 (F, 0) = (Fo.zero, 13) ∨ thn t c e.1 (F, 0) = (⟨d, e.1, e.2⟩, 0) := by
    unfold thn
    rw [if_neg (fun q => q rfl), hn, if_neg (fun q => by rw [q, zero_kind] at hk; exact absurd hk (by decide)), hfe]
    by_cases q : srE t c d = 0
    · rw [if_neg (fun r => r q)]
      exact .inr rfl
    · rw [if_pos q]
      refine .inl ?_
      rcases sr_other t c d with r | r
      · rw [sr_root, hk, if_neg (fun q => q rfl)] at r
        exact absurd r q
      · rw [r]
  have g0 : staF t (⟨d, e.1, e.2⟩, 0) = (staT t e.2, 0) := staF_good (R := (⟨d, e.1, e.2⟩, 0)) rfl hie
  refine ⟨staT t e.2, ⟨?_, ?_⟩, ?_, ?_⟩
  · rw [sta_node hie]
    omega
  · rw [sta_is hie]
    have : linkT t e.2 ≠ 0 := fun q => by
      have := link_zero.1 q d
      exact cnt_pos.2 ⟨e, he, rfl⟩ this
    show (1 : Int) ≤ (linkT t e.2 : Int)
    omega
  · unfold staM
    rw [r0, t0, g0]
  · unfold staM
    rw [r1]
    rcases t1 with q | q <;> rw [q]
    · exact .inl rfl
    · exact .inr g0

/-! Links. -/
theorem wlk_name {t : List Nd} {c : Wh} {n : Nm} (hn : Nok n) (k : Nat) {j : Int} :
    wlk t c true k [n] j = wlk t c false k [n] j ∨ ∃ id, wlk t c false k [n] j = (⟨j, n, id⟩, 0) ∧ (tget t id).kind = 3 ∧
      ((k = 0 ∧ wlk t c true k [n] j = (Fo.zero, 40)) ∨ ∃ m, k = m + 1 ∧ wlk t c true k [n] j = wlk t c true m (splitP (tget t id).target) (if absP (tget t id).target = true then 1 else j)) := by
  by_cases h : srE t c j = 0
  · have hf := wlk_last (f := false) (k := k) (r := []) h hn.dot hn.dots hn.len (fun q => q.2.elim (fun q => by cases q) (fun q => q rfl)) rfl
    by_cases h5 : (tget t (fnd (tget t j).ents n)).kind = 3
    · refine .inr ⟨_, hf, h5, ?_⟩
      cases k with
      | zero => exact .inl ⟨rfl, wlk_loop h hn.dot hn.dots hn.len (fun q => q.2 rfl) ⟨h5, .inl rfl⟩⟩
      | succ m =>
        refine .inr ⟨m, rfl, ?_⟩
        rw [wlk_link h hn.dot hn.dots hn.len (fun q => q.2 rfl) ⟨h5, .inl rfl⟩, List.append_nil]
    · rw [hf]
      exact .inl (wlk_last h hn.dot hn.dots hn.len (fun q => h5 q.1) rfl)
  · exact .inl (by rw [wlk_sr h, wlk_sr h])
/-- A name below a path, followed or not. -/
theorem res_link {t : List Nd} (h : Trx t) {c : Wh} {d n : Nm} (hn : nok n = true) :
    resM t c (joinP d n) true = resM t c (joinP d n) false ∨
    ∃ j id, resM t c (joinP d n) false = (⟨j, n, id⟩, 0) ∧ (tget t id).kind = 3 ∧
      ((resM t c (joinP d n) true).2 = 40 ∨ ∀ tg, tg = (if absP (tget t id).target = true then (tget t id).target else joinP d (tget t id).target) → fitE t tg = 36 ∨ resM t c tg true = resM t c (joinP d n) true) := by
  have hN := nok_nok hn
  by_cases hf : fitE t (joinP d n) = 0
  · have hr : ∀ f, resM t c (joinP d n) f = wlk t c f 8 (nms d ++ [n]) 1 := fun f => by unfold resM; rw [if_neg (fun q => q hf), split_name hN]
    rw [hr, hr]
    rcases wlk_pre t c 8 (nms d) 1 (by decide) with ⟨e, he, hw⟩ | ⟨k', j, hk, hj, hw⟩
    · rw [hw _ _ (by simp), hw _ _ (by simp)]
      exact .inl rfl
    rw [hw _ _ (by simp), hw _ _ (by simp)]
    rcases wlk_name (t := t) (c := c) hN k' (j := j) with q | ⟨id, q1, q2, q3⟩
    · exact .inl q
    refine .inr ⟨j, id, q1, q2, ?_⟩
    rcases q3 with ⟨-, q⟩ | ⟨m, rfl, q⟩
    · rw [q]
      exact .inl rfl
    by_cases h40 : (wlk t c true (m + 1) [n] j).2 = 40
    · exact .inl h40
    refine .inr (fun tg hto => ?_)
    rw [q] at h40 ⊢
    obtain ⟨f1, f2, f3, f4⟩ := fit_why.1 hf
    have hfk : fok (tget t id).target = true := by
      rcases ok_tget h.ok id with r | r
      · rw [r] at q2; exact absurd q2 (by decide)
      · rcases r.2 with r | r | r
        · rw [r.1] at q2; exact absurd q2 (by decide)
        · rw [r.1] at q2; exact absurd q2 (by decide)
        · exact r.2.2.2.2
    obtain ⟨T, hT⟩ : ∃ T, (tget t id).target = T := ⟨_, rfl⟩
    rw [hT] at hfk hto h40 ⊢
    have hT0 : T ≠ [] ∧ T.contains 0 = false := by
      unfold fok at hfk
      simp only [Bool.and_eq_true, decide_eq_true_eq, Bool.not_eq_true'] at hfk
      exact ⟨fun r => by rw [r] at hfk; exact absurd hfk.1.1 (by decide), hfk.2⟩
    have hd0 : d.contains 0 = false := by
      rw [join_nul] at f3
      exact (Bool.or_eq_false_iff.1 f3).1
    have hto0 : tg ≠ [] ∧ tg.contains 0 = false := by
      rw [hto]
      split
      · exact hT0
      · exact ⟨join_ne hT0.1, by rw [join_nul, hd0, hT0.2]; rfl⟩
    by_cases hl : 64 < tg.length
    · refine .inl ?_
      unfold fitE
      rw [if_neg hto0.1, if_pos hl]
    refine .inr ?_
    have hft : fitE t tg = 0 := fit_why.2 ⟨hto0.1, hl, hto0.2, f4⟩
    unfold resM
    rw [if_neg (fun r => r hft), hto]
    cases ha : absP T with
    | true =>
      rw [ha, if_pos rfl] at h40
      rw [if_pos rfl, if_pos rfl]
      obtain ⟨x, hx⟩ : ∃ x, 8 = m + x := ⟨8 - m, by omega⟩
      rw [hx]
      exact wlk_much t c true m _ _ h40 x
    | false =>
      rw [ha, if_neg (by decide)] at h40
      rw [if_neg (by decide), if_neg (by decide), split_rel hT0.1 ha]
      have hs : splitP T ≠ [] := by
        unfold splitP
        split
        · simp
        · exact nms_rel hT0.1 ha
      rw [hw true _ hs]
      exact wlk_more t c true m _ _ h40
  · refine .inl ?_
    unfold resM
    rw [if_pos hf, if_pos hf]
end Go.Proofs.YtfopnfgfoicidaaGreat
namespace Go.Proofs.YtfopnfgfoicidaaGreat
open Go Go.RowKit
set_option maxRecDepth 100000

attribute [local go_sem] cell_off4 cell_blk4
def stC (s : Sta) : Array Value := #[.int .i64 s.node, .int .i64 s.kind, .int .i64 s.mode, .int .i64 s.uid, .int .i64 s.gid, .int .i64 s.links, .int .i64 s.size]
def stV (s : Sta) : Value := .agg (stC s)
theorem eq_stat (a0 a1 a2 a3 a4 a5 a6 b0 b1 b2 b3 b4 b5 b6 : Int) (w : World) : (Op.equalIn 10000 65 (.agg #[.int .i64 a0, .int .i64 a1, .int .i64 a2, .int .i64 a3, .int .i64 a4, .int .i64 a5, .int .i64 a6]) (.agg #[.int .i64 b0, .int .i64 b1, .int .i64 b2, .int .i64 b3, .int .i64 b4, .int .i64 b5, .int .i64 b6])).run Tryz.prog w = .ok (a0 == b0 && (a1 == b1 && (a2 == b2 && (a3 == b3 && (a4 == b4 && (a5 == b5 && a6 == b6)))))) w := by
  have hS : Tryz.prog.underlying 65 = some (.struct (Tryz.prog.fieldsOf 65)) := by kernel_rfl
  rw [show (10000 : Nat) = 9999 + 1 from rfl, run_equalIn_agg w 9999 65 _ _ hS (by kernel_rfl)]
  have u5 := Tryz.underlying3
  simp only [Program.fieldsOf, Tryz.underlying65]
  go_simp
  by_cases h0 : a0 = b0 <;> by_cases h1 : a1 = b1 <;> by_cases h2 : a2 = b2 <;> by_cases h3 : a3 = b3 <;> by_cases h4 : a4 = b4 <;> by_cases h5 : a5 = b5 <;> by_cases h6 : a6 = b6 <;> simp [h0, h1, h2, h3, h4, h5, h6]
set_option maxHeartbeats 4000000 in
theorem size_any (n : Nd) (vd ve : Value) (w : World) (hd : BytesR w vd n.data) (he : EntsR w ve n.ents) (hf : Few n) :
    Calls Tryz.prog 110 #[nodeV n vd ve] w fun e w' => e = .returned (.int .i64 (sizM n)) ∧ Below w.heap.size w w' := by
  have HB1 := Lib.hid (ba w (.cells (ndC n vd ve) 56))
  obtain ⟨A1, c1, rfl⟩ := bytes_form hd rfl
  obtain ⟨A2, c2, rfl⟩ := ents_form he rfl
  have hdl := hf.data
  have hel := hf.ents
  have htl := hf.target
  have hsz := size_bA n.target
  clear hd he hf
  unfold nodeV
  by_cases k1 : n.kind = 1
  · have hk : (n.kind == 1) = true := by simpa using k1
    have HX := Lib.hid (show sizM n = (n.data.length : Int) by rw [sizM, if_pos k1])
    clear k1
    generalize sizM n = X at HX ⊢
    go_enter Tryz.func110, Tryz.ntmps110
    go_wp2
    go_ret
    exact ⟨ret_int HX.out.symm, HB1.out⟩
  · have hk : (n.kind == 1) = false := by simpa using k1
    by_cases k2 : n.kind = 2
    · have hk2 : (n.kind == 2) = true := by simpa using k2
      have HX := Lib.hid (show sizM n = (n.ents.length : Int) by rw [sizM, if_neg k1, if_pos k2])
      clear k1 k2
      generalize sizM n = X at HX ⊢
      go_enter Tryz.func110, Tryz.ntmps110
      go_wp2
      go_ret
      exact ⟨ret_int HX.out.symm, HB1.out⟩
    · have hk2 : (n.kind == 2) = false := by simpa using k2
      by_cases k3 : n.kind = 3
      · have hk3 : (n.kind == 3) = true := by simpa using k3
        have HX := Lib.hid (show sizM n = ((bA n.target).size : Int) by rw [sizM, if_neg k1, if_neg k2, if_pos k3, hsz])
        clear k1 k2 k3
        generalize sizM n = X at HX ⊢
        go_enter Tryz.func110, Tryz.ntmps110
        go_wp2
        go_ret
        exact ⟨ret_int HX.out.symm, HB1.out⟩
      · have hk3 : (n.kind == 3) = false := by simpa using k3
        have HX := Lib.hid (show sizM n = 0 by rw [sizM, if_neg k1, if_neg k2, if_neg k3])
        clear k1 k2 k3
        generalize sizM n = X at HX ⊢
        go_enter Tryz.func110, Tryz.ntmps110
        go_wp2
        go_ret
        exact ⟨ret_int HX.out.symm, HB1.out⟩
theorem data_ofN (n : Nd) : (bA n.data).size = n.data.length := size_bA n.data
end Go.Proofs.YtfopnfgfoicidaaGreat
namespace Go.Proofs.YtfopnfgfoicidaaGreat
open Go Go.RowKit

theorem nmE_take (l : List En) (k : Nat) : nmE (l.take k) = (nmE l).take k := List.map_take
end Go.Proofs.YtfopnfgfoicidaaGreat
