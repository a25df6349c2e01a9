/-
  Does one come to the root; does a node stand as a tree's node does; Right; the reference's Same. The conditions are said at each.
-/
import Derived.Test.YtilepnepcamnaaaGreatMT
import Derived.Test.YtilepnepcamnaaaGreatMA
import Derived.Test.YtilepnepcamnaaaGreatMR
import Derived.Test.YtilepnepcamnaaaGreatMC
import Derived.Test.YtilepnepcamnaaaGreatMS
import Derived.Deep.DeepCutAuto
namespace Go.Proofs.YtilepnepcamnaaaGreat
open Go Go.RowKit
set_option maxRecDepth 100000

attribute [local go_sem] cell_off4 cell_blk4
theorem root_step (f : Int → Int) {k : Nat} (hk : k < 24) (j : Int) : rootT f (24 - k) j = (decide (j = 1) || rootT f (24 - (k + 1)) (f j)) := by
  obtain ⟨m, hm⟩ : ∃ m, 24 - k = m + 1 := ⟨24 - (k + 1), by omega⟩
  rw [hm, show 24 - (k + 1) = m by omega]
  rfl
theorem root_none (f : Int → Int) {k : Nat} (hk : ¬ k < 24) (j : Int) : rootT f (24 - k) j = false := by
  rw [show 24 - k = 0 by omega]
  rfl
theorem all_drop {α : Type} {f : α → Bool} {l : List α} {k : Nat} {a : α} (h : l[k]? = some a) : (l.drop k).all f = (f a && (l.drop (k + 1)).all f) := by
  obtain ⟨h1, h2⟩ := List.getElem?_eq_some_iff.1 h
  rw [List.drop_eq_getElem_cons h1, List.all_cons, h2]
end Go.Proofs.YtilepnepcamnaaaGreat
namespace Go.Proofs.YtilepnepcamnaaaGreat
open Go Go.RowKit
set_option maxRecDepth 100000

attribute [local go_sem] cell_off4 cell_blk4
/-- Does a node stand as a tree's node does? -/
def nodeT (t : List Nd) (op : List Int) (i : Int) : Bool :=
  if (tget t i).kind = 2 then (tget t i).ents.all (fun e => tis t e.2) && (decide (i = 1) || (decide (linkT t i = 1) && rootT (parF t) 24 i))
  else if (tget t i).kind = 1 ∨ (tget t i).kind = 3 then decide (0 < linkT t i) || inL op i else true
end Go.Proofs.YtilepnepcamnaaaGreat
namespace Go.Proofs.YtilepnepcamnaaaGreat
open Go Go.RowKit
set_option maxRecDepth 100000

attribute [local go_sem] kind_of
/-- Are the nodes a tree, but for some that are open? -/
def allT (t : List Nd) (op : List Int) : Prop := (tget t 1).kind = 2 ∧ linkT t 1 = 0 ∧ ∀ k : Nat, k < 24 → nodeT t op ((k : Int) + 1) = true
theorem node_out {t : List Nd} {op : List Int} {k : Nat} (h : t.length ≤ k) : nodeT t op ((k : Int) + 1) = true := by
  have hz : tget t ((k : Int) + 1) = Nd.zero := tget_out (by omega)
  unfold nodeT
  rw [hz, if_neg (by decide), if_neg (by decide)]
end Go.Proofs.YtilepnepcamnaaaGreat
namespace Go.Proofs.YtilepnepcamnaaaGreat
open Go Go.RowKit
set_option maxRecDepth 100000

attribute [local go_sem] cell_off4 cell_blk4
theorem rget_rf {P : Nat → Prop} (v : Value) (t : List Nd) (i : Int) (w : World) (h : NsR P w v t) (hl : t.length ≤ 24) :
    Calls Tryz.prog 37 #[.agg #[v], .int .i64 i] w fun e w' => ∃ vn vk, e = .returned (.agg (rfC (tget t i) vn vk)) ∧ StrsR w' vn (nmA (nmE (tget t i).ents)) ∧ IntsR w' vk (idE (tget t i).ents) ∧ Below w.heap.size w w' := by
  refine (rget_any v t i w h hl).mono ?_
  rintro e w' ⟨u, rfl, ⟨vn, vk, rfl, hn, hk⟩, hb⟩
  exact ⟨vn, vk, rfl, hn, hk, hb⟩
end Go.Proofs.YtilepnepcamnaaaGreat
namespace Go.Proofs.YtilepnepcamnaaaGreat
open Go Go.RowKit
set_option maxRecDepth 100000

theorem tget_nat (t : List Nd) (k : Nat) : tget t ((k : Int) + 1) = t.getD k Nd.zero := by
  by_cases h : k < t.length
  · rw [tget_at h, List.getD_eq_getElem?_getD, List.getElem?_eq_getElem h]; rfl
  · rw [tget_out (by omega), List.getD_eq_getElem?_getD, List.getElem?_eq_none (by omega)]; rfl
theorem link_cons (n : Nd) (t : List Nd) (i : Int) : linkT (n :: t) i = cntE n.ents i + linkT t i := by
  unfold linkT
  rw [List.map_cons, List.sum_cons]
theorem cnt_zero (i : Int) : cntE Nd.zero.ents i = 0 := rfl
theorem link_same (i : Int) : ∀ (t u : List Nd), (∀ k, t.getD k Nd.zero = u.getD k Nd.zero) → linkT t i = linkT u i
  | [], [], _ => rfl
  | [], m :: u, h => by
    have h0 : Nd.zero = m := h 0
    rw [link_cons, ← h0, cnt_zero, Nat.zero_add]
    exact link_same i [] u (fun k => h (k + 1))
  | n :: t, [], h => by
    have h0 : n = Nd.zero := h 0
    rw [link_cons, h0, cnt_zero, Nat.zero_add]
    exact link_same i t [] (fun k => h (k + 1))
  | n :: t, m :: u, h => by
    have h0 : n = m := h 0
    rw [link_cons, link_cons, h0, link_same i t u (fun k => h (k + 1))]
theorem par_same (i : Int) : ∀ (t u : List Nd) (d : Nat), (∀ k, t.getD k Nd.zero = u.getD k Nd.zero) → parT t d i = parT u d i
  | [], [], _, _ => rfl
  | [], m :: u, d, h => by
    have h0 : Nd.zero = m := h 0
    show 0 = (if cntE m.ents i = 0 then parT u (d + 1) i else d + 1)
    rw [← h0, if_pos (cnt_zero i)]
    exact par_same i [] u (d + 1) (fun k => h (k + 1))
  | n :: t, [], d, h => by
    have h0 : n = Nd.zero := h 0
    show (if cntE n.ents i = 0 then parT t (d + 1) i else d + 1) = 0
    rw [h0, if_pos (cnt_zero i)]
    exact par_same i t [] (d + 1) (fun k => h (k + 1))
  | n :: t, m :: u, d, h => by
    have h0 : n = m := h 0
    rw [parT, parT, h0, par_same i t u (d + 1) (fun k => h (k + 1))]
theorem get_same {t u : List Nd} (h : ∀ k, t.getD k Nd.zero = u.getD k Nd.zero) (i : Int) : tget t i = tget u i := by
  by_cases q : 1 ≤ i
  · obtain ⟨k, hk⟩ : ∃ k : Nat, i = (k : Int) + 1 := ⟨(i - 1).toNat, by omega⟩
    rw [hk, tget_nat, tget_nat, h k]
  · rw [tget_out (by omega), tget_out (by omega)]
theorem node_same {t u : List Nd} (h : ∀ k, t.getD k Nd.zero = u.getD k Nd.zero) (op : List Int) (i : Int) : nodeT t op i = nodeT u op i := by
  have h1 : tis t = tis u := funext (fun j => by unfold tis; rw [get_same h j])
  have h2 : parF t = parF u := funext (fun j => by unfold parF; rw [par_same j t u 0 h])
  unfold nodeT
  rw [get_same h i, link_same i t u h, h1, h2]
theorem all_same {t u : List Nd} (h : ∀ k, t.getD k Nd.zero = u.getD k Nd.zero) (op : List Int) : toB (allT t op) = toB (allT u op) := by
  have e : allT t op = allT u op := by
    unfold allT
    rw [get_same h 1, link_same 1 t u h]
    have h1 : ∀ k : Nat, nodeT t op ((k : Int) + 1) = nodeT u op ((k : Int) + 1) := fun k => node_same h op _
    simp only [h1]
  rw [e]
theorem sam_same {t u t' u' : List Nd} (h : ∀ k, t.getD k Nd.zero = t'.getD k Nd.zero) (h' : ∀ k, u.getD k Nd.zero = u'.getD k Nd.zero) : toB (sam24 t u) = toB (sam24 t' u') := by
  have e : sam24 t u = sam24 t' u' := by
    unfold sam24
    have h1 : ∀ k : Nat, tget t ((k : Int) + 1) = tget t' ((k : Int) + 1) := fun k => get_same h _
    have h2 : ∀ k : Nat, tget u ((k : Int) + 1) = tget u' ((k : Int) + 1) := fun k => get_same h' _
    simp only [h1, h2]
  rw [e]
theorem sam_comm (t u : List Nd) : toB (sam24 t u) = toB (sam24 u t) := by
  by_cases q : sam24 t u
  · rw [toB_true q, toB_true (show sam24 u t from fun k hk => (q k hk).symm)]
  · rw [toB_false q, toB_false (show ¬ sam24 u t from fun h => q (fun k hk => (h k hk).symm))]
/-- A table's first nodes, in a room of 24. -/
def copyT (t : List Nd) (k : Nat) : List Nd := (List.range 24).map (fun j => if j < k then t.getD j Nd.zero else Nd.zero)
theorem copy_len (t : List Nd) (k : Nat) : (copyT t k).length = 24 := by
  unfold copyT
  rw [List.length_map, List.length_range]
theorem copy_at (t : List Nd) (k j : Nat) (h : j < (copyT t k).length) : (copyT t k)[j] = if j < k then t.getD j Nd.zero else Nd.zero := by
  simp only [copyT, List.getElem_map, List.getElem_range]
theorem copy_zero (t : List Nd) : copyT t 0 = List.replicate 24 Nd.zero := by
  refine List.ext_getElem (by rw [copy_len, List.length_replicate]) (fun j h1 h2 => ?_)
  rw [copy_at, List.getElem_replicate, if_neg (by omega)]
theorem copy_all {t : List Nd} (h : t.length ≤ 24) (j : Nat) : (copyT t 24).getD j Nd.zero = t.getD j Nd.zero := by
  by_cases q : j < 24
  · have hl : j < (copyT t 24).length := by rw [copy_len]; exact q
    rw [List.getD_eq_getElem?_getD, List.getElem?_eq_getElem hl]
    show (copyT t 24)[j] = _
    rw [copy_at, if_pos q]
  · have hl : ¬ j < (copyT t 24).length := by rw [copy_len]; exact q
    rw [List.getD_eq_getElem?_getD, List.getElem?_eq_none (by omega), List.getD_eq_getElem?_getD, List.getElem?_eq_none (by omega)]
theorem copy_step (t : List Nd) (k : Nat) : setT (copyT t k) ((k : Int) + 1) (tget t ((k : Int) + 1)) = copyT t (k + 1) := by
  unfold setT
  rw [show ((k : Int) + 1 - 1).toNat = k by omega, tget_nat]
  refine List.ext_getElem (by rw [List.length_set, copy_len, copy_len]) (fun j h1 h2 => ?_)
  rw [List.getElem_set, copy_at, copy_at]
  by_cases q : k = j
  · subst q
    rw [if_pos rfl, if_pos (by omega)]
  · rw [if_neg q]
    by_cases q2 : j < k
    · rw [if_pos q2, if_pos (by omega)]
    · rw [if_neg q2, if_neg (by omega)]
theorem copy_skip {t : List Nd} {k : Nat} (h : tget t ((k : Int) + 1) = Nd.zero) : copyT t k = copyT t (k + 1) := by
  rw [tget_nat] at h
  unfold copyT
  refine List.map_congr_left (fun j _ => ?_)
  by_cases q : j < k
  · rw [if_pos q, if_pos (by omega)]
  · rw [if_neg q]
    by_cases q2 : j = k
    · subst q2
      rw [if_pos (by omega), h]
    · rw [if_neg (by omega)]
theorem copy_ok {t : List Nd} (h : okT t) (k : Nat) : okT (copyT t k) := by
  intro n hn
  unfold copyT at hn
  obtain ⟨j, -, rfl⟩ := List.mem_map.1 hn
  by_cases q : j < k
  · rw [if_pos q, ← tget_nat]
    exact ok_tget h _
  · rw [if_neg q]
    exact Or.inl rfl
end Go.Proofs.YtilepnepcamnaaaGreat
