/-
  What is told of nodes, and what is built of it, as plain mathematics. No condition.
-/
import Derived.Test.YtilepnepcamnaaaGreatMW
namespace Go.Proofs.YtilepnepcamnaaaGreat
open Go Go.RowKit
set_option maxRecDepth 100000

/-- What is told of a node, or of one more entry of one. -/
structure Rw where
  kind : Int
  mode : Int
  uid : Int
  gid : Int
  parent : Int
  name : Nm
  data : List UInt8
  target : Nm
  node : Int
def Rw.nd (r : Rw) : Nd := ⟨r.kind, r.mode, r.uid, r.gid, r.data, [], r.target⟩
/-- The node of an entry: why there is none, and else its number, and the table then. -/
noncomputable def enE (t : List Nd) (r : Rw) : Int := if r.kind = 4 then (if tis t r.node = false then 2 else if (tget t r.node).kind = 2 then 1 else 0) else addE t (toB (rightP r.nd))
noncomputable def enI (t : List Nd) (r : Rw) : Int := if enE t r = 0 then (if r.kind = 4 then r.node else (freeT t 0 : Int)) else 0
noncomputable def enT (t : List Nd) (r : Rw) : List Nd := if enE t r = 0 then (if r.kind = 4 then t else setT t (freeT t 0) r.nd) else t
/-- One that is told, but for the first one: why not, and the table then. -/
noncomputable def blE (t : List Nd) (r : Rw) : Int := if tis t r.parent = false then 2 else if enE t r = 0 then withE (tget t r.parent) r.name (enI t r) else enE t r
noncomputable def blT (t : List Nd) (r : Rw) : List Nd := setT (enT t r) r.parent (withM (tget t r.parent) r.name (enI t r))
/-- The first one. -/
noncomputable def rtE (t : List Nd) (r : Rw) : Int := if r.kind ≠ 2 ∨ r.parent ≠ 0 ∨ r.name ≠ [] then 22 else addE t (toB (rightP r.nd))
def rtT (t : List Nd) (r : Rw) : List Nd := setT t (freeT t 0) r.nd
/-- What comes of building: where it is wrong, and why, or a table. -/
inductive BR where
  | bad (k : Nat) (e : Int)
  | good (t : List Nd)
noncomputable def bld : List Nd → Nat → List Rw → BR
  | t, _, [] => .good t
  | t, k, r :: l => if blE t r = 0 then bld (blT t r) (k + 1) l else .bad k (blE t r)
def newN (m : Int) : List Nd := List.replicate (newL m) Nd.zero
noncomputable def bldA (m : Int) : List Rw → BR
  | [] => .bad 0 22
  | r :: l => if rtE (newN m) r = 0 then bld (rtT (newN m) r) 1 l else .bad 0 (rtE (newN m) r)

theorem addE_zero {t : List Nd} {n : Nd} : addE t (toB (rightP n)) = 0 ↔ rightP n ∧ freeT t 0 ≠ 0 := by
  unfold addE
  by_cases h : rightP n
  · rw [toB_true h, if_neg (by decide)]
    by_cases q : freeT t 0 = 0
    · rw [if_pos q]
      exact ⟨fun h => absurd h (by decide), fun h => absurd q h.2⟩
    · rw [if_neg q]
      exact ⟨fun _ => ⟨h, q⟩, fun _ => rfl⟩
  · rw [toB_false h, if_pos rfl]
    exact ⟨fun h => absurd h (by decide), fun q => absurd q.1 h⟩
theorem rt_zero {t : List Nd} {r : Rw} : rtE t r = 0 ↔ r.kind = 2 ∧ r.parent = 0 ∧ r.name = [] ∧ rightP r.nd ∧ freeT t 0 ≠ 0 := by
  unfold rtE
  by_cases h : r.kind ≠ 2 ∨ r.parent ≠ 0 ∨ r.name ≠ []
  · rw [if_pos h]
    constructor
    · intro q; exact absurd q (by decide)
    · rintro ⟨h1, h2, h3, -⟩
      rcases h with h | h | h
      · exact absurd h1 h
      · exact absurd h2 h
      · exact absurd h3 h
  · rw [if_neg h, addE_zero]
    have h1 : r.kind = 2 := Classical.byContradiction (fun q => h (.inl q))
    have h2 : r.parent = 0 := Classical.byContradiction (fun q => h (.inr (.inl q)))
    have h3 : r.name = [] := Classical.byContradiction (fun q => h (.inr (.inr q)))
    exact ⟨fun q => ⟨h1, h2, h3, q⟩, fun q => q.2.2.2⟩
/-- Whether an entry's node may be had. -/
theorem en_zero {t : List Nd} {r : Rw} : enE t r = 0 ↔ (r.kind = 4 ∧ tis t r.node = true ∧ (tget t r.node).kind ≠ 2) ∨ (r.kind ≠ 4 ∧ rightP r.nd ∧ freeT t 0 ≠ 0) := by
  unfold enE
  by_cases h : r.kind = 4
  · rw [if_pos h]
    cases q : tis t r.node
    · rw [if_pos rfl]
      exact ⟨fun h => absurd h (by decide), fun q => by rcases q with q | q; exact absurd q.2.1 (by decide); exact absurd h q.1⟩
    · rw [if_neg (by decide)]
      by_cases q2 : (tget t r.node).kind = 2
      · rw [if_pos q2]
        exact ⟨fun h => absurd h (by decide), fun q => by rcases q with q | q; exact absurd q2 q.2.2; exact absurd h q.1⟩
      · rw [if_neg q2]
        exact ⟨fun _ => .inl ⟨h, rfl, q2⟩, fun _ => rfl⟩
  · rw [if_neg h, addE_zero]
    exact ⟨fun q => .inr ⟨h, q⟩, fun q => by rcases q with q | q; exact absurd q.1 h; exact q.2⟩
theorem bl_zero {t : List Nd} {r : Rw} : blE t r = 0 ↔ tis t r.parent = true ∧ enE t r = 0 ∧ withE (tget t r.parent) r.name (enI t r) = 0 := by
  unfold blE
  cases q : tis t r.parent
  · rw [if_pos rfl]
    exact ⟨fun h => absurd h (by decide), fun h => absurd h.1 (by decide)⟩
  · rw [if_neg (by decide)]
    by_cases q2 : enE t r = 0
    · rw [if_pos q2]
      exact ⟨fun h => ⟨rfl, q2, h⟩, fun h => h.2.2⟩
    · rw [if_neg q2]
      exact ⟨fun h => absurd h q2, fun h => absurd h.2.1 q2⟩
theorem en_len (t : List Nd) (r : Rw) : (enT t r).length = t.length := by
  unfold enT
  repeat' split
  all_goals first | exact len_setT .. | rfl
theorem bl_len (t : List Nd) (r : Rw) : (blT t r).length = t.length := by
  unfold blT
  rw [len_setT, en_len]
theorem rt_len (t : List Nd) (r : Rw) : (rtT t r).length = t.length := len_setT ..
theorem en_ok {t : List Nd} {r : Rw} (h : okT t) : okT (enT t r) := by
  unfold enT
  split
  · rename_i q
    split
    · exact h
    · rename_i q2
      rcases en_zero.1 q with q3 | q3
      · exact absurd q3.1 q2
      · exact ok_setT h _ (.inr q3.2.1)
  · exact h
/-- The directory is as it was before the node was added. -/
theorem en_get {t : List Nd} {r : Rw} {p : Int} (hp : tis t p = true) : tget (enT t r) p = tget t p := by
  unfold enT
  split
  · rename_i q
    split
    · rfl
    · rename_i q2
      rcases en_zero.1 q with q3 | q3
      · exact absurd q3.1 q2
      · obtain ⟨h1, h2, -⟩ := free_is q3.2.2
        rw [tget_set h1, if_neg]
        rintro rfl
        rw [h2] at hp
        cases hp
  · rfl
theorem bl_ok {t : List Nd} {r : Rw} (h : okT t) (hz : blE t r = 0) : okT (blT t r) := by
  obtain ⟨h1, h2, h3⟩ := bl_zero.1 hz
  exact ok_setT (en_ok h) _ (.inr (right_with (tis_right h h1) h3).1)
theorem rt_ok {t : List Nd} {r : Rw} (h : okT t) (hz : rtE t r = 0) : okT (rtT t r) := ok_setT h _ (.inr (rt_zero.1 hz).2.2.2.1)
theorem en_tis {t : List Nd} {r : Rw} {p : Int} (hp : tis t p = true) : tis (enT t r) p = true := by
  unfold tis
  rw [en_get hp]
  exact hp
end Go.Proofs.YtilepnepcamnaaaGreat
