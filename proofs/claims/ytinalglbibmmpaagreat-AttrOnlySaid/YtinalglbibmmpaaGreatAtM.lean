/-
  Tables whose nodes differ in modes and owners alone: where a path leads in them, as plain mathematics. No condition.
-/
import Derived.Test.YtinalglbibmmpaaGreatRM
namespace Go.Proofs.YtinalglbibmmpaaGreat
open Go Go.RowKit
set_option maxRecDepth 100000

/-- Two tables whose nodes are of the same kinds, with the same entries and targets. -/
structure Alk (t t' : List Nd) : Prop where
  kind : ∀ i, (tget t' i).kind = (tget t i).kind
  ents : ∀ i, (tget t' i).ents = (tget t i).ents
  target : ∀ i, (tget t' i).target = (tget t i).target
  up : ∀ i, upI t' i = upI t i
theorem Alk.tis {t t' : List Nd} (h : Alk t t') (i : Int) : tis t' i = tis t i := by
  unfold Go.Proofs.YtinalglbibmmpaaGreat.tis
  rw [h.kind]
theorem Alk.fit {t t' : List Nd} (h : Alk t t') (p : Nm) : fitE t' p = fitE t p := by
  unfold fitE
  rw [h.tis]
/-- What a path finds is found there, too, if who asks may search what they may search here. -/
theorem wlk_alk {t t' : List Nd} (h : Alk t t') (c : Wh) (f : Bool) (hs : ∀ j, srE t c j = 0 → srE t' c j = 0) : ∀ k l i, (wlk t c f k l i).2 = 0 → wlk t' c f k l i = wlk t c f k l i := by
  refine wlk_ind (fun k i _ => by rw [wlk_nil, wlk_nil]) (fun k n r i ih ih2 hz => ?_)
  rcases wlk_step t c f k n r i with ⟨a, e⟩ | ⟨a, b, e⟩ | ⟨a, b, e⟩ | ⟨a, b, d, e⟩ | ⟨a, b, d, ⟨x, y, e⟩ | ⟨x, y, ⟨z, e⟩ | ⟨j, hj, e⟩⟩ | ⟨x, y, e⟩ | ⟨x, y, z, e⟩⟩ <;> rw [e] at hz ⊢
  · exact absurd hz a
  · rw [wlk_dot (hs i a) b]
    exact ih _ hz
  · rw [wlk_up (hs i a) b, h.up]
    exact ih _ hz
  · exact absurd hz (by decide)
  · exact absurd hz (by decide)
  · exact absurd hz (by decide)
  · subst hj
    have e1 : wlk t' c f (j + 1) (n :: r) i = wlk t' c f j (splitP (tget t' (fnd (tget t' i).ents n)).target ++ r) (if absP (tget t' (fnd (tget t' i).ents n)).target = true then 1 else i) :=
      wlk_link (hs i a) b.1 b.2 d (by rw [h.ents]; exact x) (by rw [h.ents, h.kind]; exact y)
    rw [e1, h.ents, h.target]
    exact ih2 j _ _ (Nat.lt_succ_self _) hz
  · have e1 : wlk t' c f k (n :: r) i = (⟨i, n, fnd (tget t' i).ents n⟩, 0) := wlk_last (hs i a) b.1 b.2 d (by rw [h.ents, h.kind]; exact x) y
    rw [e1, h.ents]
  · have e1 : wlk t' c f k (n :: r) i = wlk t' c f k r (fnd (tget t' i).ents n) := wlk_on (hs i a) b.1 b.2 d (by rw [h.ents]; exact y) (by rw [h.ents, h.kind]; exact x) z
    rw [e1, h.ents]
    exact ih _ hz
/-- Where they may search just the same, all is the same. -/
theorem wlk_alk2 {t t' : List Nd} (h : Alk t t') (c : Wh) (f : Bool) (hs : ∀ j, srE t' c j = srE t c j) : ∀ k l i, wlk t' c f k l i = wlk t c f k l i := by
  refine wlk_ind (fun k i => by rw [wlk_nil, wlk_nil]) (fun k n r i ih ih2 => ?_)
  rcases wlk_step t c f k n r i with ⟨a, e⟩ | ⟨a, b, e⟩ | ⟨a, b, e⟩ | ⟨a, b, d, e⟩ | ⟨a, b, d, ⟨x, y, e⟩ | ⟨x, y, ⟨z, e⟩ | ⟨j, hj, e⟩⟩ | ⟨x, y, e⟩ | ⟨x, y, z, e⟩⟩ <;> rw [e]
  · rw [wlk_sr (by rw [hs]; exact a), hs]
  · rw [wlk_dot ((hs i).trans a) b]
    exact ih _
  · rw [wlk_up ((hs i).trans a) b, h.up]
    exact ih _
  · rw [wlk_long ((hs i).trans a) b.1 b.2 d]
  · rw [wlk_gone ((hs i).trans a) b.1 b.2 d (by rw [h.ents]; exact x) y]
  · subst z
    rw [wlk_loop ((hs i).trans a) b.1 b.2 d (by rw [h.ents]; exact x) (by rw [h.ents, h.kind]; exact y)]
  · subst hj
    have e1 : wlk t' c f (j + 1) (n :: r) i = wlk t' c f j (splitP (tget t' (fnd (tget t' i).ents n)).target ++ r) (if absP (tget t' (fnd (tget t' i).ents n)).target = true then 1 else i) :=
      wlk_link ((hs i).trans a) b.1 b.2 d (by rw [h.ents]; exact x) (by rw [h.ents, h.kind]; exact y)
    rw [e1, h.ents, h.target]
    exact ih2 j _ _ (Nat.lt_succ_self _)
  · have e1 : wlk t' c f k (n :: r) i = (⟨i, n, fnd (tget t' i).ents n⟩, 0) := wlk_last ((hs i).trans a) b.1 b.2 d (by rw [h.ents, h.kind]; exact x) y
    rw [e1, h.ents]
  · have e1 : wlk t' c f k (n :: r) i = wlk t' c f k r (fnd (tget t' i).ents n) := wlk_on ((hs i).trans a) b.1 b.2 d (by rw [h.ents]; exact y) (by rw [h.ents, h.kind]; exact x) z
    rw [e1, h.ents]
    exact ih _
theorem res_alk {t t' : List Nd} (h : Alk t t') (c : Wh) (p : Nm) (f : Bool) (hs : ∀ j, srE t c j = 0 → srE t' c j = 0) (hz : (resM t c p f).2 = 0) : resM t' c p f = resM t c p f := by
  unfold resM at hz ⊢
  rw [h.fit]
  split
  · rfl
  · rename_i q
    rw [if_neg q] at hz
    exact wlk_alk h c f hs _ _ _ hz
theorem res_alk2 {t t' : List Nd} (h : Alk t t') (c : Wh) (p : Nm) (f : Bool) (hs : ∀ j, srE t' c j = srE t c j) : resM t' c p f = resM t c p f := by
  unfold resM
  rw [h.fit]
  split
  · rfl
  · exact wlk_alk2 h c f hs _ _ _
/-- A node with another mode, user and group. -/
def modN (n : Nd) (m u g : Int) : Nd := ⟨n.kind, m, u, g, n.data, n.ents, n.target⟩
theorem alk_set {t : List Nd} {i : Int} (hi : 1 ≤ i ∧ i ≤ t.length) (m u g : Int) : Alk t (setT t i (modN (tget t i) m u g)) := by
  have key : ∀ j, tget (setT t i (modN (tget t i) m u g)) j = if j = i then modN (tget t i) m u g else tget t j := fun j => tget_set hi
  refine ⟨fun j => ?_, fun j => ?_, fun j => ?_, fun j => ?_⟩
  · rw [key]
    split
    · rename_i q; rw [q]; rfl
    · rfl
  · rw [key]
    split
    · rename_i q; rw [q]; rfl
    · rfl
  · rw [key]
    split
    · rename_i q; rw [q]; rfl
    · rfl
  · unfold upI
    rw [par_set (n := modN (tget t i) m u g) (j := j) hi Iff.rfl]
/-- What isn't a directory plays no part in a search. -/
theorem sr_set {t : List Nd} {i : Int} (hi : 1 ≤ i ∧ i ≤ t.length) (m u g : Int) (hk : (tget t i).kind ≠ 2) (c : Wh) (j : Int) : srE (setT t i (modN (tget t i) m u g)) c j = srE t c j := by
  have key : tget (setT t i (modN (tget t i) m u g)) j = if j = i then modN (tget t i) m u g else tget t j := tget_set hi
  unfold srE canT
  rw [(alk_set hi m u g).kind, (alk_set hi m u g).tis, key]
  by_cases q : j = i
  · subst q
    rw [if_pos hk, if_pos hk]
  · rw [if_neg q]
end Go.Proofs.YtinalglbibmmpaaGreat
