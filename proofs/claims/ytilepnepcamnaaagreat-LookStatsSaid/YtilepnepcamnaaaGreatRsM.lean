/-
  How a path leads to a node, as plain mathematics. No condition.
-/
import Derived.Test.YtilepnepcamnaaaGreatPA
import Derived.Test.YtilepnepcamnaaaGreatCR
import Derived.Test.YtilepnepcamnaaaGreatBldR
namespace Go.Proofs.YtilepnepcamnaaaGreat
open Go Go.RowKit
set_option maxRecDepth 100000

/-- Who asks. -/
structure Wh where
  u : Int
  g : Int
  gs : List Int
/-- May one do to a node what some bits let? -/
def canN (c : Wh) (n : Nd) (want : Int) : Bool := c.u == 0 || lets want (cls n.mode (clsOf c.u c.g c.gs n.uid n.gid))
def canT (t : List Nd) (c : Wh) (i want : Int) : Bool := tis t i && canN c (tget t i) want
/-- Where a path leads. -/
structure Fo where
  dir : Int
  name : Nm
  node : Int
def Fo.zero : Fo := ⟨0, [], 0⟩
/-- What is wrong with a path by itself. -/
def fitE (t : List Nd) (p : Nm) : Int := if p = [] then 2 else if 64 < p.length then 36 else if p.contains 0 = true then 22 else if tis t 1 = false then 2 else 0
def upI (t : List Nd) (i : Int) : Int := if parT t 0 i ≠ 0 then (parT t 0 i : Int) else i
/-- Why a directory may not be searched. -/
def srE (t : List Nd) (c : Wh) (i : Int) : Int := if (tget t i).kind ≠ 2 then 20 else if canT t c i 1 = false then 13 else 0
/-- Names are taken, one behind the other; k links more may be followed. -/
def wlk (t : List Nd) (c : Wh) (f : Bool) (k : Nat) (l : List Nm) (i : Int) : Fo × Int :=
  match l with
  | [] => (⟨i, [], i⟩, 0)
  | n :: r =>
    if srE t c i ≠ 0 then (Fo.zero, srE t c i)
    else if n = [46] then wlk t c f k r i
    else if n = [46, 46] then wlk t c f k r (upI t i)
    else if 12 < n.length then (Fo.zero, 36)
    else if fnd (tget t i).ents n = 0 ∧ r ≠ [] then (Fo.zero, 2)
    else if (tget t (fnd (tget t i).ents n)).kind = 3 ∧ (f = true ∨ r ≠ []) then
      match k with
      | 0 => (Fo.zero, 40)
      | k + 1 => wlk t c f k (splitP (tget t (fnd (tget t i).ents n)).target ++ r) (if absP (tget t (fnd (tget t i).ents n)).target = true then 1 else i)
    else if r = [] then (⟨i, n, fnd (tget t i).ents n⟩, 0)
    else wlk t c f k r (fnd (tget t i).ents n)
termination_by (k, l.length)
decreasing_by all_goals first | (apply Prod.Lex.left; omega) | (apply Prod.Lex.right; simp)
def resM (t : List Nd) (c : Wh) (p : Nm) (f : Bool) : Fo × Int := if fitE t p ≠ 0 then (Fo.zero, fitE t p) else wlk t c f 8 (splitP p) 1

theorem wlk_nil (t : List Nd) (c : Wh) (f : Bool) (k : Nat) (i : Int) : wlk t c f k [] i = (⟨i, [], i⟩, 0) := by rw [wlk.eq_def]
theorem wlk_cons (t : List Nd) (c : Wh) (f : Bool) (k : Nat) (n : Nm) (r : List Nm) (i : Int) : wlk t c f k (n :: r) i =
    if srE t c i ≠ 0 then (Fo.zero, srE t c i)
    else if n = [46] then wlk t c f k r i
    else if n = [46, 46] then wlk t c f k r (upI t i)
    else if 12 < n.length then (Fo.zero, 36)
    else if fnd (tget t i).ents n = 0 ∧ r ≠ [] then (Fo.zero, 2)
    else if (tget t (fnd (tget t i).ents n)).kind = 3 ∧ (f = true ∨ r ≠ []) then
      match k with
      | 0 => (Fo.zero, 40)
      | k + 1 => wlk t c f k (splitP (tget t (fnd (tget t i).ents n)).target ++ r) (if absP (tget t (fnd (tget t i).ents n)).target = true then 1 else i)
    else if r = [] then (⟨i, n, fnd (tget t i).ents n⟩, 0)
    else wlk t c f k r (fnd (tget t i).ents n) := by
  rw [wlk.eq_def]
section
variable {t : List Nd} {c : Wh} {f : Bool} {k : Nat} {n : Nm} {r : List Nm} {i : Int}
theorem wlk_sr (h : srE t c i ≠ 0) : wlk t c f k (n :: r) i = (Fo.zero, srE t c i) := by rw [wlk_cons, if_pos h]
theorem wlk_dot (h : srE t c i = 0) (hn : n = [46]) : wlk t c f k (n :: r) i = wlk t c f k r i := by rw [wlk_cons, if_neg (fun q => q h), if_pos hn]
theorem wlk_up (h : srE t c i = 0) (hn : n = [46, 46]) : wlk t c f k (n :: r) i = wlk t c f k r (upI t i) := by
  rw [wlk_cons, if_neg (fun q => q h), if_neg (by rw [hn]; decide), if_pos hn]
theorem wlk_long (h : srE t c i = 0) (h1 : n ≠ [46]) (h2 : n ≠ [46, 46]) (hn : 12 < n.length) : wlk t c f k (n :: r) i = (Fo.zero, 36) := by
  rw [wlk_cons, if_neg (fun q => q h), if_neg h1, if_neg h2, if_pos hn]
variable (h : srE t c i = 0) (h1 : n ≠ [46]) (h2 : n ≠ [46, 46]) (h3 : ¬ 12 < n.length)
include h h1 h2 h3
theorem wlk_gone (hz : fnd (tget t i).ents n = 0) (hr : r ≠ []) : wlk t c f k (n :: r) i = (Fo.zero, 2) := by
  rw [wlk_cons, if_neg (fun q => q h), if_neg h1, if_neg h2, if_neg h3, if_pos ⟨hz, hr⟩]
theorem wlk_loop (hz : ¬ (fnd (tget t i).ents n = 0 ∧ r ≠ [])) (hl : (tget t (fnd (tget t i).ents n)).kind = 3 ∧ (f = true ∨ r ≠ [])) : wlk t c f 0 (n :: r) i = (Fo.zero, 40) := by
  rw [wlk_cons, if_neg (fun q => q h), if_neg h1, if_neg h2, if_neg h3, if_neg hz, if_pos hl]
theorem wlk_link (hz : ¬ (fnd (tget t i).ents n = 0 ∧ r ≠ [])) (hl : (tget t (fnd (tget t i).ents n)).kind = 3 ∧ (f = true ∨ r ≠ [])) :
    wlk t c f (k + 1) (n :: r) i = wlk t c f k (splitP (tget t (fnd (tget t i).ents n)).target ++ r) (if absP (tget t (fnd (tget t i).ents n)).target = true then 1 else i) := by
  rw [wlk_cons, if_neg (fun q => q h), if_neg h1, if_neg h2, if_neg h3, if_neg hz, if_pos hl]
theorem wlk_last (hl : ¬ ((tget t (fnd (tget t i).ents n)).kind = 3 ∧ (f = true ∨ r ≠ []))) (hr : r = []) : wlk t c f k (n :: r) i = (⟨i, n, fnd (tget t i).ents n⟩, 0) := by
  rw [wlk_cons, if_neg (fun q => q h), if_neg h1, if_neg h2, if_neg h3, if_neg (fun q => q.2 hr), if_neg hl, if_pos hr]
theorem wlk_on (hz : fnd (tget t i).ents n ≠ 0) (hl : ¬ ((tget t (fnd (tget t i).ents n)).kind = 3 ∧ (f = true ∨ r ≠ []))) (hr : r ≠ []) : wlk t c f k (n :: r) i = wlk t c f k r (fnd (tget t i).ents n) := by
  rw [wlk_cons, if_neg (fun q => q h), if_neg h1, if_neg h2, if_neg h3, if_neg (fun q => hz q.1), if_neg hl, if_neg hr]
end
theorem spl_len (p : Nm) : (splitP p).length ≤ p.length + 2 := by
  have := nms_len p
  unfold splitP
  split
  · rw [List.length_append]
    simp only [List.length_cons, List.length_nil]
    omega
  · omega
theorem target_len {t : List Nd} (h : okT t) (i : Int) : (tget t i).target.length ≤ 64 := by
  rcases ok_tget h i with h1 | h1
  · rw [h1]
    exact Nat.zero_le _
  · rcases h1.2 with q | q | q
    · rw [q.2.2.1]; exact Nat.zero_le _
    · rw [q.2.2.1]; exact Nat.zero_le _
    · have := q.2.2.2
      unfold fok at this
      simp at this
      omega
theorem kind_tis {t : List Nd} {i : Int} (h : (tget t i).kind = 2) : tis t i = true := by
  unfold tis
  rw [h]
  rfl
theorem sr_zero {t : List Nd} {c : Wh} {i : Int} : srE t c i = 0 ↔ (tget t i).kind = 2 ∧ canT t c i 1 = true := by
  unfold srE
  split
  · rename_i h
    exact ⟨fun q => absurd q (by decide), fun q => absurd q.1 h⟩
  · rename_i h
    have h : (tget t i).kind = 2 := Classical.byContradiction h
    split
    · rename_i h2
      exact ⟨fun q => absurd q (by decide), fun q => by rw [h2] at q; exact absurd q.2 (by decide)⟩
    · rename_i h2
      exact ⟨fun _ => ⟨h, by simpa using h2⟩, fun _ => rfl⟩
end Go.Proofs.YtilepnepcamnaaaGreat
