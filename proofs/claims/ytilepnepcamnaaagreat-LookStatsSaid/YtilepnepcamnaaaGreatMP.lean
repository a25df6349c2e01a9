/-
  The reference's Put, Add and Drop; the statement's model, in memory of its own. The conditions are said at each.
-/
import Derived.Test.YtilepnepcamnaaaGreatMS
import Derived.Test.YtilepnepcamnaaaGreatMR
import Derived.Test.YtilepnepcamnaaaGreatMT
import Derived.Test.YtilepnepcamnaaaGreatMC
namespace Go.Proofs.YtilepnepcamnaaaGreat
open Go Go.RowKit
set_option maxRecDepth 100000

attribute [local go_sem] cell_off4 cell_blk4
/-- The answer with a table: the table, and what stands behind it. -/
def TabAns (P : Nat → Prop) (w : World) (t : List Nd) (f : Value → Value) (e : Ending) (w' : World) : Prop := ∃ v, e = .returned (f v) ∧ NsR P w' v t ∧ Below w.heap.size w w'
theorem boxes {w : World} {a b c : Obj} : Below w.heap.size w (((w.alloc a).alloc b).alloc c) := al (al (ba _ _) _) _
end Go.Proofs.YtilepnepcamnaaaGreat
namespace Go.Proofs.YtilepnepcamnaaaGreat
open Go Go.RowKit
set_option maxRecDepth 100000

attribute [local go_sem] cell_off4 cell_blk4
end Go.Proofs.YtilepnepcamnaaaGreat
namespace Go.Proofs.YtilepnepcamnaaaGreat
open Go Go.RowKit
set_option maxRecDepth 100000

attribute [local go_sem] cell_off4 cell_blk4
/-- The model's node, and its lists lie in new memory that is there. -/
def NrP (w w' : World) (v : Value) (n : Nd) : Prop := ∃ vn vk, v = refV n vn vk ∧ StrsR w' vn (nmA (nmE n.ents)) ∧ IntsR w' vk (idE n.ents) ∧ LP (fun b => w.heap.size ≤ b ∧ b < w'.heap.size) vn ∧ LP (fun b => w.heap.size ≤ b ∧ b < w'.heap.size) vk
theorem lp_own {w : World} {B : Nat} {e : TypeId} {size n : Nat} {v : Value} {xs : List Value} (h : w.ownsRow B e size v n xs) : LP (fun b => B ≤ b ∧ b < w.heap.size) v := by
  rcases h.2 with ⟨rfl, hn⟩ | ⟨g, cap, cur, rfl, hB, hh, _⟩
  · exact LP.nil _
  · intro ad n c hv
    injection hv with hA
    injection hA with hA
    subst hA
    exact ⟨hB, (Array.getElem?_eq_some_iff.1 hh).1⟩
theorem modelp_end {w wB wr w8 : World} {n : Nd} {vn vk : Value} {r : Nat} (hS : MS wB wr n vn vk (nmA (nmE n.ents)) (idE n.ents)) (hkr : Blk wr r 75 rfZ) (hb : Below w.heap.size w wr) (hr : w.heap.size ≤ r) (hg : wr.grownBy w8 (some r)) (hwB : w.heap.size ≤ wB.heap.size) :
    ∃ v, Ending.returned (refV n vn vk) = .returned v ∧ NrP w w8 v n ∧ Below w.heap.size w w8 :=
  have h1 := hS.rows.nm.kept hg (.inr (own_blk_ne hS.rows.nm hkr (by decide)))
  have h2 := hS.rows.kd.kept hg (.inr (own_blk_ne hS.rows.kd hkr (by decide)))
  ⟨_, rfl, ⟨vn, vk, rfl, StrsR.of_own h1, IntsR.of_own h2, (lp_own h1).mono (fun b hb => ⟨Nat.le_trans hwB hb.1, hb.2⟩), (lp_own h2).mono (fun b hb => ⟨Nat.le_trans hwB hb.1, hb.2⟩)⟩, below_grown hb hg hr⟩
end Go.Proofs.YtilepnepcamnaaaGreat
