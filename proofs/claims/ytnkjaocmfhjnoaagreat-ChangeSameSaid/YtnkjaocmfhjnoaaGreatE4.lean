/-
  The reference's table. The conditions are said at each. The reference's Same, Right, Put, Add and Drop; trees; arguments of statements. The conditions are said at each. What is told of a tree, and the tree of it, as plain mathematics. No condition. How a path leads to a node, as plain mathematics. No condition. What is told of a node, as mathematics and in memory; node.Size, node.Names. The conditions are said at each. What modes become where they are set, or behind a write, and who may change owners, as plain mathematics. No condition.
-/
import Derived.Test.YtnkjaocmfhjnoaaGreatE0
import Derived.Test.YtnkjaocmfhjnoaaGreatE1
import Derived.Test.YtnkjaocmfhjnoaaGreatE2
import Derived.Test.YtnkjaocmfhjnoaaGreatE3
import Derived.Deep.DeepCutAuto
import Derived.Test.YtnkjaocmfhjnoaaGreatRows
import Derived.ProofKit
import Derived.OpenShut
import Derived.Deep.DeepHandedRow
import Derived.Carry
import Derived.Lib.LaidTab
import Derived.Deep.Slices
import Derived.Deep.Strs
import Derived.Test.YtnkjaocmfhjnoaaGreatShelf
namespace Go.Proofs.YtnkjaocmfhjnoaaGreat
open Go Go.RowKit
set_option maxRecDepth 100000

attribute [local go_sem] cell_off4 cell_blk4
theorem toB_and (p q : Prop) : toB (p ∧ q) = (toB p && toB q) := by
  by_cases hp : p
  · by_cases hq : q
    · rw [toB_true hp, toB_true hq, toB_true ⟨hp, hq⟩]; rfl
    · rw [toB_false hq, toB_false (fun h => hq h.2), Bool.and_false]
  · rw [toB_false hp, toB_false (fun h => hp h.1), Bool.false_and]
theorem toB_congr {p q : Prop} (h : p ↔ q) : toB p = toB q := by
  by_cases hp : p
  · rw [toB_true hp, toB_true (h.1 hp)]
  · rw [toB_false hp, toB_false (fun hq => hp (h.2 hq))]
end Go.Proofs.YtnkjaocmfhjnoaaGreat
namespace Go.Proofs.YtnkjaocmfhjnoaaGreat
open Go Go.RowKit
set_option maxRecDepth 100000

section
variable {w wr : World} {g u R : Nat} {T : List Nd}
end
end Go.Proofs.YtnkjaocmfhjnoaaGreat
namespace Go.Proofs.YtnkjaocmfhjnoaaGreat
open Go Go.RowKit
set_option maxRecDepth 100000

section
variable {P : Nat → Prop} {w w' : World} {v : Value} {t : List Nd}
theorem StrsR.other {m : Nat} {l : List ByteArray} (h : StrsR w v l) (hg : w.grownBy w' (some m)) (hne : ∀ (ad : Addr) (n c : Nat), v = .slice (some ad) n c → ad.block ≠ m) : StrsR w' v l := by
  obtain ⟨A, c, rfl, hle, hc⟩ := h
  refine ⟨A, c, rfl, hle, fun k e hk => ?_⟩
  obtain ⟨ad, rfl, h0⟩ := hc k e hk
  have e1 : (ad.add k).block = ad.block := by unfold Addr.add; split <;> rfl
  refine ⟨ad, rfl, ?_⟩
  rw [← h0]
  exact World.cell?_of_block (hg.block _ (World.block_lt_of_cell? _ _ h0) (by rw [e1]; intro q; injection q with q; exact hne ad _ _ rfl q))
theorem IntsR.other {m : Nat} {l : List Int} (h : IntsR w v l) (hg : w.grownBy w' (some m)) (hne : ∀ (ad : Addr) (n c : Nat), v = .slice (some ad) n c → ad.block ≠ m) : IntsR w' v l := by
  obtain ⟨A, c, rfl, hc⟩ := h
  refine ⟨A, c, rfl, fun k e hk => ?_⟩
  obtain ⟨ad, rfl, h0⟩ := hc k e hk
  have e1 : (ad.add k).block = ad.block := by unfold Addr.add; split <;> rfl
  refine ⟨ad, rfl, ?_⟩
  rw [← h0]
  exact World.cell?_of_block (hg.block _ (World.block_lt_of_cell? _ _ h0) (by rw [e1]; intro q; injection q with q; exact hne ad _ _ rfl q))
end
end Go.Proofs.YtnkjaocmfhjnoaaGreat
namespace Go.Proofs.YtnkjaocmfhjnoaaGreat
open Go Go.RowKit
set_option maxRecDepth 100000

attribute [local go_sem] cell_off4 cell_blk4
end Go.Proofs.YtnkjaocmfhjnoaaGreat
namespace Go.Proofs.YtnkjaocmfhjnoaaGreat
open Go Go.RowKit
set_option maxRecDepth 100000

section
variable {w : World} {g o : Nat} {t : TypeId} {cs : Array Value} {u0 u1 u2 u3 u4 u5 u6 u7 : Value}
end
theorem own_some {w : World} {B : Nat} {e : TypeId} {size n : Nat} {v : Value} {xs : List Value} (h : w.ownsRow B e size v n xs) (hn : 0 < n) : ∃ g' cap cur, v = .slice (some ⟨g', 0, none⟩) n cap ∧ B ≤ g' ∧ Blk w g' e cur ∧ n * size ≤ cur.size ∧ ∀ j u, xs[j]? = some u → w.cell? ⟨g', j, none⟩ = some u := by
  have h0 := h
  rcases h.2 with ⟨rfl, hz⟩ | ⟨g, cap, cur, rfl, hB, hh, hc, _, hs, _⟩
  · omega
  · exact ⟨g, cap, cur, rfl, hB, hh, by rw [hs]; exact Nat.mul_le_mul_right _ hc, fun j u hj => row_at h0 j u hj⟩
attribute [local go_sem] cell_off4 cell_blk4
end Go.Proofs.YtnkjaocmfhjnoaaGreat
namespace Go.Proofs.YtnkjaocmfhjnoaaGreat
open Go Go.RowKit
set_option maxRecDepth 100000

attribute [local go_sem] cell_off4 cell_blk4
end Go.Proofs.YtnkjaocmfhjnoaaGreat
namespace Go.Proofs.YtnkjaocmfhjnoaaGreat
open Go Go.RowKit
set_option maxRecDepth 100000

end Go.Proofs.YtnkjaocmfhjnoaaGreat
namespace Go.Proofs.YtnkjaocmfhjnoaaGreat
open Go Go.RowKit
set_option maxRecDepth 100000

end Go.Proofs.YtnkjaocmfhjnoaaGreat
namespace Go.Proofs.YtnkjaocmfhjnoaaGreat
open Go Go.RowKit
set_option maxRecDepth 100000

end Go.Proofs.YtnkjaocmfhjnoaaGreat
namespace Go.Proofs.YtnkjaocmfhjnoaaGreat
open Go Go.RowKit
set_option maxRecDepth 100000

attribute [local go_sem] cell_off4 cell_blk4
end Go.Proofs.YtnkjaocmfhjnoaaGreat
namespace Go.Proofs.YtnkjaocmfhjnoaaGreat
open Go Go.RowKit
set_option maxRecDepth 100000

attribute [local go_sem] cell_off4 cell_blk4
end Go.Proofs.YtnkjaocmfhjnoaaGreat
namespace Go.Proofs.YtnkjaocmfhjnoaaGreat
open Go Go.RowKit
set_option maxRecDepth 100000

attribute [local go_sem] cell_off4 cell_blk4
end Go.Proofs.YtnkjaocmfhjnoaaGreat
namespace Go.Proofs.YtnkjaocmfhjnoaaGreat
open Go Go.RowKit
set_option maxRecDepth 100000

attribute [local go_sem] cell_off4 cell_blk4
end Go.Proofs.YtnkjaocmfhjnoaaGreat
namespace Go.Proofs.YtnkjaocmfhjnoaaGreat
open Go Go.RowKit
set_option maxRecDepth 100000

attribute [local go_sem] cell_off4 cell_blk4
end Go.Proofs.YtnkjaocmfhjnoaaGreat
namespace Go.Proofs.YtnkjaocmfhjnoaaGreat
open Go Go.RowKit
set_option maxRecDepth 100000

attribute [local go_sem] kind_of
end Go.Proofs.YtnkjaocmfhjnoaaGreat
namespace Go.Proofs.YtnkjaocmfhjnoaaGreat
open Go Go.RowKit
set_option maxRecDepth 100000

attribute [local go_sem] cell_off4 cell_blk4
end Go.Proofs.YtnkjaocmfhjnoaaGreat
namespace Go.Proofs.YtnkjaocmfhjnoaaGreat
open Go Go.RowKit
set_option maxRecDepth 100000

theorem link_cons (n : Nd) (t : List Nd) (i : Int) : linkT (n :: t) i = cntE n.ents i + linkT t i := by
  unfold linkT
  rw [List.map_cons, List.sum_cons]
theorem cnt_zero (i : Int) : cntE Nd.zero.ents i = 0 := rfl
end Go.Proofs.YtnkjaocmfhjnoaaGreat
namespace Go.Proofs.YtnkjaocmfhjnoaaGreat
open Go Go.ChangeShapes Go.WideShapes Go.ChangeAt Go.RowKit Go.Deep

theorem ownKnobs : ownKnob Tryz.prog.godebug = none := by kernel_rfl
noncomputable def laidWorld (os : Os) : World := World.holding Tryz.prog os ⟨#[], #[], []⟩
section
variable {H : Type} {enc : TypeId × Value → H} {P : Program}
theorem law_post {f : Func} {s : ChangeSpec} {W W' : World} {args : Array Value} {ds : List (DataW H)} {v : Value} {before pa : List MemPlace}
    (hW : DataW.Whole enc P f.params.toList s.vars false W args.toList ds [] before)
    (hres : DataW.TrodAll enc P W' W.heap.size (fun _ => false) false f.resultTypes.toList (v.resultList f.resultTypes.size) (s.fn H (ds ++ [])).results [])
    (hargs : DataW.TrodAll enc P W' 0 (fun b => decide (b < W.heap.size)) true f.params.toList args.toList (s.fn H (ds ++ [])).args pa)
    (hvars : DataW.TrodVars enc P W' (fun b => decide (b < W.heap.size)) s.vars (s.fn H (ds ++ [])).vars [])
    (hb : Below W.heap.size W W') : s.post enc P f false true false false W args v W' :=
  ⟨ds, [], before, [], pa, [], hW, hres, hargs, hvars, hb.frame _, fun h => by cases h⟩
end
theorem cells_str : Tryz.prog.cellsOf 9 = 1 := by kernel_rfl
theorem cells_u8 : Tryz.prog.cellsOf 5 = 1 := by kernel_rfl
theorem byte_of {n : Int} (h : (Lit.int .u8 n).wf = true) : ∃ c : UInt8, n = co c := by
  have hb : 0 ≤ n ∧ n ≤ 255 := by simpa [Lit.wf, IntKind.min, IntKind.max, IntKind.signed, IntKind.bits] using h
  refine ⟨UInt8.ofNat n.toNat, ?_⟩
  unfold co
  rw [UInt8.toNat_ofNat']
  omega
section
variable {H : Type} {enc : TypeId × Value → H} {w : World} {base : Nat} {spare : Nat → Bool} {held : Bool}
end
theorem laid_out : laidOutB Tryz.prog = true := by kernel_rfl
section
variable {H : Type} {enc : TypeId × Value → H} {W W' : World} {v : Value} {d : DataW H} {p : List MemPlace}
end
end Go.Proofs.YtnkjaocmfhjnoaaGreat
namespace Go.Proofs.YtnkjaocmfhjnoaaGreat
open Go Go.ChangeShapes Go.WideShapes Go.ChangeAt Go.RowKit Go.Deep

theorem cells_int : Tryz.prog.cellsOf 3 = 1 := by kernel_rfl
theorem cells_ent : Tryz.prog.cellsOf 126 = 2 := by kernel_rfl
theorem cells_node : Tryz.prog.cellsOf 65 = 7 := by kernel_rfl
theorem cells_bs : Tryz.prog.cellsOf 46 = 1 := by kernel_rfl
theorem cells_es : Tryz.prog.cellsOf 63 = 1 := by kernel_rfl
section
variable {H : Type} {enc : TypeId × Value → H} {P : Program} {w : World} {base : Nat} {spare : Nat → Bool} {held : Bool}
theorem trod_struct7 {t : TypeId} {f0 f1 f2 f3 f4 f5 f6 : Field} {fuel : Nat} {cs : List Value} {x : DataW H × List MemPlace} (ht : P.underlying t = some (.struct #[f0, f1, f2, f3, f4, f5, f6])) (h : DataW.trod enc P w base spare held fuel t cs = some x) :
    ∃ y0 y1 y2 y3 y4 y5 y6 n, DataW.trod enc P w base spare held n f0.type ((cs.drop f0.offset).take (P.cellsOf f0.type)) = some y0 ∧ DataW.trod enc P w base spare held n f1.type ((cs.drop f1.offset).take (P.cellsOf f1.type)) = some y1 ∧
      DataW.trod enc P w base spare held n f2.type ((cs.drop f2.offset).take (P.cellsOf f2.type)) = some y2 ∧ DataW.trod enc P w base spare held n f3.type ((cs.drop f3.offset).take (P.cellsOf f3.type)) = some y3 ∧
      DataW.trod enc P w base spare held n f4.type ((cs.drop f4.offset).take (P.cellsOf f4.type)) = some y4 ∧ DataW.trod enc P w base spare held n f5.type ((cs.drop f5.offset).take (P.cellsOf f5.type)) = some y5 ∧
      DataW.trod enc P w base spare held n f6.type ((cs.drop f6.offset).take (P.cellsOf f6.type)) = some y6 := by
  obtain ⟨xs, n, _, rfl, hl, hlen, hf⟩ := DataW.trod_struct ht h
  match xs, hlen with
  | [y0, y1, y2, y3, y4, y5, y6], _ => exact ⟨y0, y1, y2, y3, y4, y5, y6, n, by simpa using hf 0 f0 rfl, by simpa using hf 1 f1 rfl, by simpa using hf 2 f2 rfl, by simpa using hf 3 f3 rfl, by simpa using hf 4 f4 rfl, by simpa using hf 5 f5 rfl, by simpa using hf 6 f6 rfl⟩
end
section
variable {H : Type} {enc : TypeId × Value → H} {w : World} {base : Nat} {spare : Nat → Bool} {held : Bool}
theorem read_bytes' {fuel : Nat} {v : Value} {x : DataW H × List MemPlace} (h : DataW.trod enc Tryz.prog w base spare held fuel 46 [v] = some x) : ∃ l : List UInt8, BytesR w v l := by
  rcases open_slice1 Tryz.underlying46 cells_u8 h with ⟨hv, _⟩ | ⟨a, len, cap, m, n, V, D, Pl, hcs, _, hl, hm, hmm, _, hi⟩
  · have hv' : v = .slice none 0 0 := by simpa using hv
    exact ⟨[], by rw [hv']; exact BytesR.nil w⟩
  · have hv : v = .slice (some a) len cap := by simpa using hcs
    have hlm : len ≤ m := by rw [hmm]; split <;> omega
    have key : ∀ i, i < len → ∃ b : UInt8, w.cell? (a.add i) = some (.int .u8 (co b)) := by
      intro i hil
      obtain ⟨hc, ht⟩ := hi i (by omega)
      obtain ⟨n0, e0, _, w0⟩ := DataW.trod_int Tryz.underlying5 ht
      simp at e0
      obtain ⟨b, rfl⟩ := byte_of w0
      exact ⟨b, by rw [hc, e0]⟩
    refine ⟨List.ofFn fun i : Fin len => Classical.choose (key i.val i.isLt), ⟨some a, cap, by rw [List.length_ofFn]; exact hv, fun k ca hk => ?_⟩⟩
    rw [List.getElem?_ofFn] at hk
    split at hk
    · rename_i hlt
      injection hk with hk
      subst hk
      exact ⟨a, rfl, Classical.choose_spec (key k hlt)⟩
    · cases hk
end
end Go.Proofs.YtnkjaocmfhjnoaaGreat
namespace Go.Proofs.YtnkjaocmfhjnoaaGreat
open Go Go.ChangeShapes Go.WideShapes Go.ChangeAt Go.RowKit Go.Deep

section
variable {H : Type} {enc : TypeId × Value → H} {w : World} {base : Nat} {spare : Nat → Bool} {held : Bool}
end
section
variable {H : Type} {enc : TypeId × Value → H} {W W' : World} {v : Value} {d : DataW H} {p : List MemPlace}
end
end Go.Proofs.YtnkjaocmfhjnoaaGreat
namespace Go.Proofs.YtnkjaocmfhjnoaaGreat
open Go Go.RowKit
set_option maxRecDepth 100000

structure Rw where
  kind : Int
  mode : Int
  uid : Int
  gid : Int
  parent : Int
  name : Nm
  data : List UInt8
  target : Nm
  node : Int
def Rw.nd (r : Rw) : Nd := ⟨r.kind, r.mode, r.uid, r.gid, r.data, [], r.target⟩
noncomputable def enE (t : List Nd) (r : Rw) : Int := if r.kind = 4 then (if tis t r.node = false then 2 else if (tget t r.node).kind = 2 then 1 else 0) else addE t (toB (rightP r.nd))
noncomputable def enI (t : List Nd) (r : Rw) : Int := if enE t r = 0 then (if r.kind = 4 then r.node else (freeT t 0 : Int)) else 0
noncomputable def enT (t : List Nd) (r : Rw) : List Nd := if enE t r = 0 then (if r.kind = 4 then t else setT t (freeT t 0) r.nd) else t
noncomputable def blE (t : List Nd) (r : Rw) : Int := if tis t r.parent = false then 2 else if enE t r = 0 then withE (tget t r.parent) r.name (enI t r) else enE t r
noncomputable def blT (t : List Nd) (r : Rw) : List Nd := setT (enT t r) r.parent (withM (tget t r.parent) r.name (enI t r))
noncomputable def rtE (t : List Nd) (r : Rw) : Int := if r.kind ≠ 2 ∨ r.parent ≠ 0 ∨ r.name ≠ [] then 22 else addE t (toB (rightP r.nd))
def rtT (t : List Nd) (r : Rw) : List Nd := setT t (freeT t 0) r.nd
inductive BR where
  | bad (k : Nat) (e : Int)
  | good (t : List Nd)
noncomputable def bld : List Nd → Nat → List Rw → BR
  | t, _, [] => .good t
  | t, k, r :: l => if blE t r = 0 then bld (blT t r) (k + 1) l else .bad k (blE t r)
def newN (m : Int) : List Nd := List.replicate (newL m) Nd.zero
noncomputable def bldA (m : Int) : List Rw → BR
  | [] => .bad 0 22
  | r :: l => if rtE (newN m) r = 0 then bld (rtT (newN m) r) 1 l else .bad 0 (rtE (newN m) r)

theorem addE_zero {t : List Nd} {n : Nd} : addE t (toB (rightP n)) = 0 ↔ rightP n ∧ freeT t 0 ≠ 0 := by
  unfold addE
  by_cases h : rightP n
  · rw [toB_true h, if_neg (by decide)]
    by_cases q : freeT t 0 = 0
    · rw [if_pos q]
      exact ⟨fun h => absurd h (by decide), fun h => absurd q h.2⟩
    · rw [if_neg q]
      exact ⟨fun _ => ⟨h, q⟩, fun _ => rfl⟩
  · rw [toB_false h, if_pos rfl]
    exact ⟨fun h => absurd h (by decide), fun q => absurd q.1 h⟩
theorem rt_zero {t : List Nd} {r : Rw} : rtE t r = 0 ↔ r.kind = 2 ∧ r.parent = 0 ∧ r.name = [] ∧ rightP r.nd ∧ freeT t 0 ≠ 0 := by
  unfold rtE
  by_cases h : r.kind ≠ 2 ∨ r.parent ≠ 0 ∨ r.name ≠ []
  · rw [if_pos h]
    constructor
    · intro q; exact absurd q (by decide)
    · rintro ⟨h1, h2, h3, -⟩
      rcases h with h | h | h
      · exact absurd h1 h
      · exact absurd h2 h
      · exact absurd h3 h
  · rw [if_neg h, addE_zero]
    have h1 : r.kind = 2 := Classical.byContradiction (fun q => h (.inl q))
    have h2 : r.parent = 0 := Classical.byContradiction (fun q => h (.inr (.inl q)))
    have h3 : r.name = [] := Classical.byContradiction (fun q => h (.inr (.inr q)))
    exact ⟨fun q => ⟨h1, h2, h3, q⟩, fun q => q.2.2.2⟩
theorem en_zero {t : List Nd} {r : Rw} : enE t r = 0 ↔ (r.kind = 4 ∧ tis t r.node = true ∧ (tget t r.node).kind ≠ 2) ∨ (r.kind ≠ 4 ∧ rightP r.nd ∧ freeT t 0 ≠ 0) := by
  unfold enE
  by_cases h : r.kind = 4
  · rw [if_pos h]
    cases q : tis t r.node
    · rw [if_pos rfl]
      exact ⟨fun h => absurd h (by decide), fun q => by rcases q with q | q; exact absurd q.2.1 (by decide); exact absurd h q.1⟩
    · rw [if_neg (by decide)]
      by_cases q2 : (tget t r.node).kind = 2
      · rw [if_pos q2]
        exact ⟨fun h => absurd h (by decide), fun q => by rcases q with q | q; exact absurd q2 q.2.2; exact absurd h q.1⟩
      · rw [if_neg q2]
        exact ⟨fun _ => .inl ⟨h, rfl, q2⟩, fun _ => rfl⟩
  · rw [if_neg h, addE_zero]
    exact ⟨fun q => .inr ⟨h, q⟩, fun q => by rcases q with q | q; exact absurd q.1 h; exact q.2⟩
theorem bl_zero {t : List Nd} {r : Rw} : blE t r = 0 ↔ tis t r.parent = true ∧ enE t r = 0 ∧ withE (tget t r.parent) r.name (enI t r) = 0 := by
  unfold blE
  cases q : tis t r.parent
  · rw [if_pos rfl]
    exact ⟨fun h => absurd h (by decide), fun h => absurd h.1 (by decide)⟩
  · rw [if_neg (by decide)]
    by_cases q2 : enE t r = 0
    · rw [if_pos q2]
      exact ⟨fun h => ⟨rfl, q2, h⟩, fun h => h.2.2⟩
    · rw [if_neg q2]
      exact ⟨fun h => absurd h q2, fun h => absurd h.2.1 q2⟩
theorem en_len (t : List Nd) (r : Rw) : (enT t r).length = t.length := by
  unfold enT
  repeat' split
  all_goals first | exact len_setT .. | rfl
theorem bl_len (t : List Nd) (r : Rw) : (blT t r).length = t.length := by
  unfold blT
  rw [len_setT, en_len]
theorem rt_len (t : List Nd) (r : Rw) : (rtT t r).length = t.length := len_setT ..
theorem en_ok {t : List Nd} {r : Rw} (h : okT t) : okT (enT t r) := by
  unfold enT
  split
  · rename_i q
    split
    · exact h
    · rename_i q2
      rcases en_zero.1 q with q3 | q3
      · exact absurd q3.1 q2
      · exact ok_setT h _ (.inr q3.2.1)
  · exact h
theorem en_get {t : List Nd} {r : Rw} {p : Int} (hp : tis t p = true) : tget (enT t r) p = tget t p := by
  unfold enT
  split
  · rename_i q
    split
    · rfl
    · rename_i q2
      rcases en_zero.1 q with q3 | q3
      · exact absurd q3.1 q2
      · obtain ⟨h1, h2, -⟩ := free_is q3.2.2
        rw [tget_set h1, if_neg]
        rintro rfl
        rw [h2] at hp
        cases hp
  · rfl
theorem bl_ok {t : List Nd} {r : Rw} (h : okT t) (hz : blE t r = 0) : okT (blT t r) := by
  obtain ⟨h1, h2, h3⟩ := bl_zero.1 hz
  exact ok_setT (en_ok h) _ (.inr (right_with (tis_right h h1) h3).1)
theorem rt_ok {t : List Nd} {r : Rw} (h : okT t) (hz : rtE t r = 0) : okT (rtT t r) := ok_setT h _ (.inr (rt_zero.1 hz).2.2.2.1)
theorem en_tis {t : List Nd} {r : Rw} {p : Int} (hp : tis t p = true) : tis (enT t r) p = true := by
  unfold tis
  rw [en_get hp]
  exact hp
end Go.Proofs.YtnkjaocmfhjnoaaGreat
namespace Go.Proofs.YtnkjaocmfhjnoaaGreat
open Go Go.RowKit
set_option maxRecDepth 100000

theorem link_set {t : List Nd} {i : Int} (h : 1 ≤ i ∧ i ≤ t.length) (n : Nd) (j : Int) : linkT (setT t i n) j + cntE (tget t i).ents j = linkT t j + cntE n.ents j := by
  have key : ∀ (t : List Nd) (k : Nat) (hk : k < t.length), linkT (t.set k n) j + cntE (t[k]).ents j = linkT t j + cntE n.ents j := by
    intro t
    induction t with
    | nil => intro k hk; exact absurd hk (Nat.not_lt_zero _)
    | cons m t ih =>
      intro k hk
      cases k with
      | zero =>
        rw [List.set_cons_zero, link_cons, link_cons]
        simp only [List.getElem_cons_zero]
        omega
      | succ k =>
        have := ih k (by rw [List.length_cons] at hk; omega)
        rw [List.set_cons_succ, link_cons, link_cons]
        simp only [List.getElem_cons_succ]
        omega
  have hk : (i - 1).toNat < t.length := by omega
  have := key t (i - 1).toNat hk
  rw [← tget_at hk, show (((i - 1).toNat : Nat) : Int) + 1 = i by omega] at this
  exact this
theorem ent_set {t : List Nd} {i : Int} (h : 1 ≤ i ∧ i ≤ t.length) (n : Nd) : entT (setT t i n) + (tget t i).ents.length = entT t + n.ents.length := by
  have key : ∀ (t : List Nd) (k : Nat) (hk : k < t.length), entT (t.set k n) + (t[k]).ents.length = entT t + n.ents.length := by
    intro t
    induction t with
    | nil => intro k hk; exact absurd hk (Nat.not_lt_zero _)
    | cons m t ih =>
      intro k hk
      cases k with
      | zero =>
        unfold entT
        rw [List.set_cons_zero, List.map_cons, List.sum_cons, List.map_cons, List.sum_cons]
        simp only [List.getElem_cons_zero]
        omega
      | succ k =>
        have := ih k (by rw [List.length_cons] at hk; omega)
        unfold entT at this ⊢
        rw [List.set_cons_succ, List.map_cons, List.sum_cons, List.map_cons, List.sum_cons]
        simp only [List.getElem_cons_succ]
        omega
  have hk : (i - 1).toNat < t.length := by omega
  have := key t (i - 1).toNat hk
  rw [← tget_at hk, show (((i - 1).toNat : Nat) : Int) + 1 = i by omega] at this
  exact this
theorem par_set {t : List Nd} {i : Int} (h : 1 ≤ i ∧ i ≤ t.length) {n : Nd} {j : Int} (hc : cntE n.ents j = 0 ↔ cntE (tget t i).ents j = 0) : parT (setT t i n) 0 j = parT t 0 j := by
  have key : ∀ (t : List Nd) (k d : Nat) (hk : k < t.length), (cntE n.ents j = 0 ↔ cntE (t[k]).ents j = 0) → parT (t.set k n) d j = parT t d j := by
    intro t
    induction t with
    | nil => intro k d hk; exact absurd hk (Nat.not_lt_zero _)
    | cons m t ih =>
      intro k d hk hc
      cases k with
      | zero =>
        simp only [List.getElem_cons_zero] at hc
        rw [List.set_cons_zero, parT, parT]
        by_cases q : cntE n.ents j = 0
        · rw [if_pos q, if_pos (hc.1 q)]
        · rw [if_neg q, if_neg (fun h => q (hc.2 h))]
      | succ k =>
        simp only [List.getElem_cons_succ] at hc
        rw [List.set_cons_succ, parT, parT, ih k (d + 1) (by rw [List.length_cons] at hk; omega) hc]
  have hk : (i - 1).toNat < t.length := by omega
  refine key t (i - 1).toNat 0 hk ?_
  rw [← tget_at hk, show (((i - 1).toNat : Nat) : Int) + 1 = i by omega]
  exact hc
theorem par_one {j : Int} : ∀ (t : List Nd) (d k : Nat), (∃ h : k < t.length, cntE (t[k]).ents j ≠ 0) → (∀ m (h : m < t.length), m ≠ k → cntE (t[m]).ents j = 0) → parT t d j = d + k + 1
  | [], _, k, ⟨h, _⟩, _ => absurd h (Nat.not_lt_zero _)
  | n :: t, d, 0, ⟨_, h⟩, _ => by
    simp only [List.getElem_cons_zero] at h
    rw [parT, if_neg h]
  | n :: t, d, k + 1, ⟨h1, h2⟩, h3 => by
    have h0 := h3 0 (Nat.succ_pos _) (by omega)
    simp only [List.getElem_cons_zero] at h0
    simp only [List.getElem_cons_succ] at h2
    rw [parT, if_pos h0, par_one t (d + 1) k ⟨by rw [List.length_cons] at h1; omega, h2⟩ (fun m hm hk => by
      have := h3 (m + 1) (by rw [List.length_cons]; omega) (by omega)
      simpa using this)]
    omega
theorem link_zero {t : List Nd} {j : Int} : linkT t j = 0 ↔ ∀ i : Int, cntE (tget t i).ents j = 0 := by
  constructor
  · intro h i
    by_cases q : 1 ≤ i ∧ i ≤ t.length
    · have := link_set q Nd.zero j
      rw [h, cnt_zero] at this
      omega
    · rw [tget_out q]; exact cnt_zero j
  · intro h
    unfold linkT
    have : ∀ n ∈ t, cntE n.ents j = 0 := by
      intro n hn
      obtain ⟨k, hk, rfl⟩ := List.getElem_of_mem hn
      rw [← tget_at hk]
      exact h _
    induction t with
    | nil => rfl
    | cons n t ih =>
      rw [List.map_cons, List.sum_cons, this n (List.mem_cons_self ..), ih (fun i => ?_) (fun m hm => this m (List.mem_cons_of_mem _ hm))]
      by_cases q : 1 ≤ i ∧ i ≤ t.length
      · have e : i = (((i - 1).toNat : Nat) : Int) + 1 := by omega
        rw [e, tget_at (by omega)]
        exact this _ (List.mem_cons_of_mem _ (List.getElem_mem _))
      · rw [tget_out q]; exact cnt_zero j
theorem cnt_ins (x : En) (l : List En) (j : Int) : cntE (ins x l) j = cntE l j + if x.2 = j then 1 else 0 := by
  unfold cntE
  induction l with
  | nil =>
    rw [ins, List.countP_cons]
    simp only [decide_eq_true_eq]
  | cons e l ih =>
    rw [ins]
    split
    · rw [List.countP_cons]
      simp only [decide_eq_true_eq]
    · rw [List.countP_cons, List.countP_cons, ih]
      omega
structure Trx (t : List Nd) : Prop where
  ok : okT t
  le : t.length ≤ 24
  num : ∀ i : Int, tis t i = true ↔ 1 ≤ i ∧ i ≤ usedT t
  one : (tget t 1).kind = 2
  here : ∀ (i : Int) (e : En), e ∈ (tget t i).ents → 1 ≤ e.2 ∧ e.2 ≤ usedT t
  top : linkT t 1 = 0
  link : ∀ i : Int, 2 ≤ i → i ≤ usedT t → 1 ≤ linkT t i ∧ ((tget t i).kind = 2 → linkT t i = 1 ∧ (parT t 0 i : Int) < i)
theorem free_at {t : List Nd} (h : ∀ i : Int, tis t i = true ↔ 1 ≤ i ∧ i ≤ usedT t) (hf : freeT t 0 ≠ 0) : freeT t 0 = usedT t + 1 := by
  obtain ⟨h1, h2, h3⟩ := free_is hf
  have h4 : ¬ (freeT t 0 : Int) ≤ usedT t := fun q => by
    have := (h (freeT t 0)).2 ⟨h1.1, q⟩
    rw [h2] at this
    cases this
  have h5 : ¬ (usedT t : Int) + 1 < freeT t 0 := fun q => by
    have := (h ((usedT t : Int) + 1)).1 (h3 _ (by omega) q)
    omega
  omega
theorem new_free (m : Int) : freeT (newN m) 0 = 1 := by
  have := newL_bd m
  unfold newN
  obtain ⟨k, hk⟩ : ∃ k, newL m = k + 1 := ⟨newL m - 1, by omega⟩
  rw [hk, List.replicate_succ, freeT, if_pos (show Nd.zero.kind = 0 from rfl)]
theorem new_len (m : Int) : (newN m).length = newL m := List.length_replicate ..
theorem ent_new (m : Int) : entT (newN m) = 0 := by
  unfold newN entT
  generalize newL m = k
  induction k with
  | zero => rfl
  | succ k ih => rw [List.replicate_succ, List.map_cons, List.sum_cons, ih]; rfl
theorem tre_root {m : Int} {r : Rw} (h : rtE (newN m) r = 0) : Trx (rtT (newN m) r) ∧ usedT (rtT (newN m) r) = 1 ∧ entT (rtT (newN m) r) = 0 := by
  obtain ⟨h1, -, -, h2, h3⟩ := rt_zero.1 h
  have hb := newL_bd m
  have hl := new_len m
  have hu : usedT (rtT (newN m) r) = 1 := by
    unfold rtT
    rw [used_add h3 h2]
    unfold newN
    rw [used_new]
  have hin : 1 ≤ (1 : Int) ∧ (1 : Int) ≤ (newN m).length := by omega
  have hT : rtT (newN m) r = setT (newN m) 1 r.nd := by unfold rtT; rw [new_free]; rfl
  have hg : ∀ i, tget (rtT (newN m) r) i = if i = 1 then r.nd else Nd.zero := fun i => by
    rw [hT, tget_set hin]
    unfold newN
    rw [tget_new]
  have hnn : r.nd.ents = [] := rfl
  have hz : ∀ i, (tget (rtT (newN m) r) i).ents = [] := fun i => by
    rw [hg]
    split
    · rfl
    · rfl
  have hlk : ∀ i, linkT (rtT (newN m) r) i = 0 := fun i => link_zero.2 (fun j => by rw [hz]; rfl)
  refine ⟨⟨rt_ok (ok_new _) h, by rw [rt_len]; omega, fun i => ?_, by rw [hg, if_pos rfl]; exact h1, fun i e he => ?_, hlk 1, fun i h4 h5 => ?_⟩, hu, ?_⟩
  · unfold tis
    rw [hu, hg]
    by_cases q : i = 1
    · rw [if_pos q]
      exact ⟨fun _ => by omega, fun _ => decide_eq_true (by show r.kind ≠ 0; omega)⟩
    · rw [if_neg q]
      exact ⟨fun h => absurd rfl (of_decide_eq_true h), fun h => by omega⟩
  · rw [hz] at he; cases he
  · rw [hu] at h5; omega
  · have := ent_set hin r.nd
    rw [hT]
    have h6 : (tget (newN m) 1).ents.length = 0 := by unfold newN; rw [tget_new]; rfl
    rw [h6, ent_new, hnn] at this
    exact this
theorem withM_zero {n : Nd} {name : Nm} {id : Int} (h : withE n name id = 0) : withM n name id = { n with ents := ins (name, id) n.ents } := by
  unfold withM
  rw [if_pos h]
theorem tre_node {t : List Nd} {n : Nd} (h : Trx t) (hn : rightP n) (hne : n.ents = []) (hf : freeT t 0 ≠ 0) :
    usedT (setT t (freeT t 0) n) = usedT t + 1 ∧ freeT t 0 = usedT t + 1 ∧ (∀ j, linkT (setT t (freeT t 0) n) j = linkT t j) ∧ (∀ j, parT (setT t (freeT t 0) n) 0 j = parT t 0 j) ∧ entT (setT t (freeT t 0) n) = entT t ∧ linkT t (freeT t 0) = 0 := by
  obtain ⟨h1, h2, h3⟩ := free_is hf
  have hz : tget t (freeT t 0) = Nd.zero := tis_not h.ok h2
  have hF := free_at h.num hf
  refine ⟨used_add hf hn, hF, fun j => ?_, fun j => ?_, ?_, link_zero.2 (fun i => ?_)⟩
  · have := link_set h1 n j
    rw [hz, hne] at this
    exact Nat.add_right_cancel this
  · refine par_set h1 ?_
    rw [hz, hne]
    exact Iff.rfl
  · have := ent_set h1 n
    rw [hz, hne] at this
    exact Nat.add_right_cancel this
  · refine Classical.byContradiction (fun q => ?_)
    obtain ⟨e, he, he2⟩ := cnt_pos.1 q
    have := h.here i e he
    omega
theorem tre_step {t : List Nd} {r : Rw} (h : Trx t) (hz : blE t r = 0) : Trx (blT t r) ∧ usedT (blT t r) = usedT t + (if r.kind = 4 then 0 else 1) ∧ entT (blT t r) = entT t + 1 := by
  obtain ⟨hp, he, hw⟩ := bl_zero.1 hz
  have hpi := (h.num r.parent).1 hp
  have hpl := tis_in hp
  have hok := bl_ok h.ok hz
  have hpk : (tget t r.parent).kind = 2 := (withE_zero.1 hw).1
  have hpe := en_get (r := r) hp
  have hpin : 1 ≤ r.parent ∧ r.parent ≤ (enT t r).length := by rw [en_len]; exact hpl
  have hW := withM_zero hw
  obtain ⟨I, hI⟩ : ∃ I, enI t r = I := ⟨_, rfl⟩
  rw [hI] at hW hw
  have hT : blT t r = setT (enT t r) r.parent (withM (tget t r.parent) r.name I) := by unfold blT; rw [hI]
  have hents : (withM (tget t r.parent) r.name I).ents = ins (r.name, I) (tget t r.parent).ents := by rw [hW]
  have hkind : (withM (tget t r.parent) r.name I).kind = (tget t r.parent).kind := by rw [hW]
  have hlk : ∀ j, linkT (blT t r) j = linkT (enT t r) j + if I = j then 1 else 0 := fun j => by
    have := link_set hpin (withM (tget t r.parent) r.name I) j
    rw [hents, cnt_ins, hpe] at this
    rw [hT]
    simp only at this
    omega
  have hen : entT (blT t r) = entT (enT t r) + 1 := by
    have := ent_set hpin (withM (tget t r.parent) r.name I)
    rw [hents, len_ins, hpe] at this
    rw [hT]
    omega
  have hpa : ∀ j, j ≠ I → parT (blT t r) 0 j = parT (enT t r) 0 j := fun j hj => by
    rw [hT]
    refine par_set hpin ?_
    rw [hents, cnt_ins, hpe, if_neg (fun q => hj q.symm)]
    exact Iff.rfl
  have hgt : ∀ j, tget (blT t r) j = if j = r.parent then withM (tget t r.parent) r.name I else tget (enT t r) j := fun j => by
    rw [hT]; exact tget_set hpin
  have hkd : ∀ j, (tget (blT t r) j).kind = (tget (enT t r) j).kind := fun j => by
    rw [hgt]
    split
    · rename_i q
      rw [hkind, q, hpe]
    · rfl
  have htis : ∀ j, tis (blT t r) j = tis (enT t r) j := fun j => by unfold tis; rw [hkd]
  have hus : usedT (blT t r) = usedT (enT t r) := by
    have := used_setT hpin (withM (tget t r.parent) r.name I)
    rw [if_pos (en_tis hp), if_pos (by rw [hkind, hpk]; decide)] at this
    rw [hT]
    omega
  rcases en_zero.1 he with ⟨h4, h5, h6⟩ | ⟨h4, h5, h6⟩
  · have hI2 : r.node = I := by
      rw [← hI]; unfold enI; rw [if_pos he, if_pos h4]
    have hE : enT t r = t := by unfold enT; rw [if_pos he, if_pos h4]
    rw [hE] at hlk hen hpa hgt hkd htis hus
    have hIn := (h.num r.node).1 h5
    rw [hI2] at h5 h6 hIn
    refine ⟨⟨hok, by rw [bl_len]; exact h.le, fun i => ?_, by rw [hkd]; exact h.one, fun i e he => ?_, ?_, fun i q1 q2 => ?_⟩, by rw [hus, if_pos h4, Nat.add_zero], hen⟩
    · rw [htis, hus]; exact h.num i
    · rw [hus]
      rw [hgt] at he
      split at he
      · rw [hents] at he
        rcases (mem_ins _ _ _).1 he with rfl | he
        · exact hIn
        · exact h.here _ e he
      · exact h.here _ e he
    · have h1 : I ≠ 1 := by rintro rfl; exact h6 h.one
      rw [hlk, if_neg h1, h.top]
    · rw [hus] at q2
      obtain ⟨a1, a2⟩ := h.link i q1 q2
      refine ⟨by rw [hlk]; omega, fun hk => ?_⟩
      rw [hkd] at hk
      have hne : i ≠ I := by rintro rfl; exact h6 hk
      rw [hlk, if_neg (fun q => hne q.symm), hpa i hne]
      exact a2 hk
  · have hI2 : (freeT t 0 : Int) = I := by
      rw [← hI]; unfold enI; rw [if_pos he, if_neg h4]
    have hE : enT t r = setT t (freeT t 0) r.nd := by unfold enT; rw [if_pos he, if_neg h4]
    obtain ⟨b1, b2, b3, b4, b5, b6⟩ := tre_node h h5 rfl h6
    obtain ⟨c1, c2, -⟩ := free_is h6
    rw [← hE] at b1 b3 b4 b5
    have hIu : I = (usedT t : Int) + 1 := by omega
    rw [hI2] at b6 c1 c2
    have hge : ∀ j, tget (enT t r) j = if j = I then r.nd else tget t j := fun j => by rw [hE, hI2]; exact tget_set c1
    have hpI : r.parent ≠ I := by omega
    have hnz : r.nd.kind ≠ 0 := right_kind h5
    refine ⟨⟨hok, by rw [bl_len]; exact h.le, fun i => ?_, ?_, fun i e he => ?_, ?_, fun i q1 q2 => ?_⟩, by rw [hus, b1, if_neg h4], by rw [hen, b5]⟩
    · rw [htis, hus, b1]
      unfold tis
      rw [hge]
      by_cases q : i = I
      · rw [if_pos q]
        exact ⟨fun _ => by omega, fun _ => decide_eq_true hnz⟩
      · rw [if_neg q]
        have := h.num i
        unfold tis at this
        rw [this]
        constructor
        · intro q; omega
        · intro q; omega
    · rw [hkd, hge, if_neg (by omega)]
      exact h.one
    · rw [hus, b1]
      rw [hgt] at he
      split at he
      · rw [hents] at he
        rcases (mem_ins _ _ _).1 he with rfl | he
        · exact ⟨by show 1 ≤ I; omega, by show I ≤ _; omega⟩
        · have := h.here _ e he
          exact ⟨this.1, by omega⟩
      · rw [hge] at he
        split at he
        · cases he
        · have := h.here _ e he
          exact ⟨this.1, by omega⟩
    · rw [hlk, b3, h.top, if_neg (by omega)]
    · rw [hus, b1] at q2
      by_cases q : i = I
      · rw [hlk, b3, q, b6, if_pos rfl]
        refine ⟨by omega, fun _ => ⟨by omega, ?_⟩⟩
        have hk : (r.parent - 1).toNat < (blT t r).length := by rw [bl_len]; omega
        have he1 : r.parent = (((r.parent - 1).toNat : Nat) : Int) + 1 := by omega
        have := par_one (j := I) (blT t r) 0 (r.parent - 1).toNat ⟨hk, by
          rw [← tget_at hk, ← he1, hgt, if_pos rfl, hents, cnt_ins, if_pos rfl]
          omega⟩ (fun m hm hmk => by
          rw [← tget_at hm, hgt, if_neg (by omega), hge]
          split
          · rfl
          · exact link_zero.1 b6 _)
        rw [this]
        omega
      · obtain ⟨a1, a2⟩ := h.link i q1 (by omega)
        refine ⟨by rw [hlk, b3]; omega, fun hk => ?_⟩
        rw [hkd, hge, if_neg q] at hk
        rw [hlk, b3, if_neg (fun p => q p.symm), hpa i q, b4]
        exact a2 hk
theorem tre_bld : ∀ (l : List Rw) (t : List Nd) (k : Nat) (T : List Nd), Trx t → bld t k l = .good T → Trx T ∧ usedT T = usedT t + l.countP (fun r => decide (r.kind ≠ 4)) ∧ entT T = entT t + l.length ∧ T.length = t.length
  | [], t, k, T, h, hb => by
    rw [bld] at hb
    injection hb with hb
    subst hb
    exact ⟨h, rfl, rfl, rfl⟩
  | r :: l, t, k, T, h, hb => by
    rw [bld] at hb
    split at hb
    · rename_i q
      obtain ⟨h1, h2, h3⟩ := tre_step h q
      obtain ⟨a1, a2, a3, a4⟩ := tre_bld l _ _ T h1 hb
      refine ⟨a1, ?_, by rw [a3, h3, List.length_cons]; omega, by rw [a4, bl_len]⟩
      rw [a2, h2, List.countP_cons]
      by_cases q4 : r.kind = 4
      · rw [if_pos q4, if_neg (by simp [q4])]; omega
      · rw [if_neg q4, if_pos (by simp [q4])]; omega
    · cases hb
theorem tre_all {m : Int} {l : List Rw} {T : List Nd} (hb : bldA m l = .good T) : Trx T ∧ usedT T = l.countP (fun r => decide (r.kind ≠ 4)) ∧ entT T + 1 = l.length ∧ T.length = newL m := by
  cases l with
  | nil => cases hb
  | cons r l =>
    rw [bldA] at hb
    split at hb
    · rename_i q
      obtain ⟨h1, h2, h3⟩ := tre_root q
      obtain ⟨a1, a2, a3, a4⟩ := tre_bld l _ _ T h1 hb
      have hk := (rt_zero.1 q).1
      refine ⟨a1, ?_, by rw [a3, h3, List.length_cons]; omega, by rw [a4, rt_len, new_len]⟩
      rw [a2, h2, List.countP_cons, if_pos (by rw [hk]; decide)]
      omega
    · cases hb
end Go.Proofs.YtnkjaocmfhjnoaaGreat
namespace Go.Proofs.YtnkjaocmfhjnoaaGreat
open Go Go.RowKit
set_option maxRecDepth 100000

structure Wh where
  u : Int
  g : Int
  gs : List Int
def canN (c : Wh) (n : Nd) (want : Int) : Bool := c.u == 0 || lets want (cls n.mode (clsOf c.u c.g c.gs n.uid n.gid))
def canT (t : List Nd) (c : Wh) (i want : Int) : Bool := tis t i && canN c (tget t i) want
structure Fo where
  dir : Int
  name : Nm
  node : Int
def Fo.zero : Fo := ⟨0, [], 0⟩
def fitE (t : List Nd) (p : Nm) : Int := if p = [] then 2 else if 64 < p.length then 36 else if p.contains 0 = true then 22 else if tis t 1 = false then 2 else 0
def upI (t : List Nd) (i : Int) : Int := if parT t 0 i ≠ 0 then (parT t 0 i : Int) else i
def srE (t : List Nd) (c : Wh) (i : Int) : Int := if (tget t i).kind ≠ 2 then 20 else if canT t c i 1 = false then 13 else 0
def wlk (t : List Nd) (c : Wh) (f : Bool) (k : Nat) (l : List Nm) (i : Int) : Fo × Int :=
  match l with
  | [] => (⟨i, [], i⟩, 0)
  | n :: r =>
    if srE t c i ≠ 0 then (Fo.zero, srE t c i)
    else if n = [46] then wlk t c f k r i
    else if n = [46, 46] then wlk t c f k r (upI t i)
    else if 12 < n.length then (Fo.zero, 36)
    else if fnd (tget t i).ents n = 0 ∧ r ≠ [] then (Fo.zero, 2)
    else if (tget t (fnd (tget t i).ents n)).kind = 3 ∧ (f = true ∨ r ≠ []) then
      match k with
      | 0 => (Fo.zero, 40)
      | k + 1 => wlk t c f k (splitP (tget t (fnd (tget t i).ents n)).target ++ r) (if absP (tget t (fnd (tget t i).ents n)).target = true then 1 else i)
    else if r = [] then (⟨i, n, fnd (tget t i).ents n⟩, 0)
    else wlk t c f k r (fnd (tget t i).ents n)
termination_by (k, l.length)
decreasing_by all_goals first | (apply Prod.Lex.left; omega) | (apply Prod.Lex.right; simp)
def resM (t : List Nd) (c : Wh) (p : Nm) (f : Bool) : Fo × Int := if fitE t p ≠ 0 then (Fo.zero, fitE t p) else wlk t c f 8 (splitP p) 1

theorem wlk_nil (t : List Nd) (c : Wh) (f : Bool) (k : Nat) (i : Int) : wlk t c f k [] i = (⟨i, [], i⟩, 0) := by rw [wlk.eq_def]
theorem wlk_cons (t : List Nd) (c : Wh) (f : Bool) (k : Nat) (n : Nm) (r : List Nm) (i : Int) : wlk t c f k (n :: r) i =
    if srE t c i ≠ 0 then (Fo.zero, srE t c i)
    else if n = [46] then wlk t c f k r i
    else if n = [46, 46] then wlk t c f k r (upI t i)
    else if 12 < n.length then (Fo.zero, 36)
    else if fnd (tget t i).ents n = 0 ∧ r ≠ [] then (Fo.zero, 2)
    else if (tget t (fnd (tget t i).ents n)).kind = 3 ∧ (f = true ∨ r ≠ []) then
      match k with
      | 0 => (Fo.zero, 40)
      | k + 1 => wlk t c f k (splitP (tget t (fnd (tget t i).ents n)).target ++ r) (if absP (tget t (fnd (tget t i).ents n)).target = true then 1 else i)
    else if r = [] then (⟨i, n, fnd (tget t i).ents n⟩, 0)
    else wlk t c f k r (fnd (tget t i).ents n) := by
  rw [wlk.eq_def]
section
variable {t : List Nd} {c : Wh} {f : Bool} {k : Nat} {n : Nm} {r : List Nm} {i : Int}
theorem wlk_sr (h : srE t c i ≠ 0) : wlk t c f k (n :: r) i = (Fo.zero, srE t c i) := by rw [wlk_cons, if_pos h]
theorem wlk_dot (h : srE t c i = 0) (hn : n = [46]) : wlk t c f k (n :: r) i = wlk t c f k r i := by rw [wlk_cons, if_neg (fun q => q h), if_pos hn]
theorem wlk_up (h : srE t c i = 0) (hn : n = [46, 46]) : wlk t c f k (n :: r) i = wlk t c f k r (upI t i) := by
  rw [wlk_cons, if_neg (fun q => q h), if_neg (by rw [hn]; decide), if_pos hn]
theorem wlk_long (h : srE t c i = 0) (h1 : n ≠ [46]) (h2 : n ≠ [46, 46]) (hn : 12 < n.length) : wlk t c f k (n :: r) i = (Fo.zero, 36) := by
  rw [wlk_cons, if_neg (fun q => q h), if_neg h1, if_neg h2, if_pos hn]
variable (h : srE t c i = 0) (h1 : n ≠ [46]) (h2 : n ≠ [46, 46]) (h3 : ¬ 12 < n.length)
include h h1 h2 h3
theorem wlk_gone (hz : fnd (tget t i).ents n = 0) (hr : r ≠ []) : wlk t c f k (n :: r) i = (Fo.zero, 2) := by
  rw [wlk_cons, if_neg (fun q => q h), if_neg h1, if_neg h2, if_neg h3, if_pos ⟨hz, hr⟩]
theorem wlk_loop (hz : ¬ (fnd (tget t i).ents n = 0 ∧ r ≠ [])) (hl : (tget t (fnd (tget t i).ents n)).kind = 3 ∧ (f = true ∨ r ≠ [])) : wlk t c f 0 (n :: r) i = (Fo.zero, 40) := by
  rw [wlk_cons, if_neg (fun q => q h), if_neg h1, if_neg h2, if_neg h3, if_neg hz, if_pos hl]
theorem wlk_link (hz : ¬ (fnd (tget t i).ents n = 0 ∧ r ≠ [])) (hl : (tget t (fnd (tget t i).ents n)).kind = 3 ∧ (f = true ∨ r ≠ [])) :
    wlk t c f (k + 1) (n :: r) i = wlk t c f k (splitP (tget t (fnd (tget t i).ents n)).target ++ r) (if absP (tget t (fnd (tget t i).ents n)).target = true then 1 else i) := by
  rw [wlk_cons, if_neg (fun q => q h), if_neg h1, if_neg h2, if_neg h3, if_neg hz, if_pos hl]
theorem wlk_last (hl : ¬ ((tget t (fnd (tget t i).ents n)).kind = 3 ∧ (f = true ∨ r ≠ []))) (hr : r = []) : wlk t c f k (n :: r) i = (⟨i, n, fnd (tget t i).ents n⟩, 0) := by
  rw [wlk_cons, if_neg (fun q => q h), if_neg h1, if_neg h2, if_neg h3, if_neg (fun q => q.2 hr), if_neg hl, if_pos hr]
theorem wlk_on (hz : fnd (tget t i).ents n ≠ 0) (hl : ¬ ((tget t (fnd (tget t i).ents n)).kind = 3 ∧ (f = true ∨ r ≠ []))) (hr : r ≠ []) : wlk t c f k (n :: r) i = wlk t c f k r (fnd (tget t i).ents n) := by
  rw [wlk_cons, if_neg (fun q => q h), if_neg h1, if_neg h2, if_neg h3, if_neg (fun q => hz q.1), if_neg hl, if_neg hr]
end
theorem spl_len (p : Nm) : (splitP p).length ≤ p.length + 2 := by
  have := nms_len p
  unfold splitP
  split
  · rw [List.length_append]
    simp only [List.length_cons, List.length_nil]
    omega
  · omega
theorem target_len {t : List Nd} (h : okT t) (i : Int) : (tget t i).target.length ≤ 64 := by
  rcases ok_tget h i with h1 | h1
  · rw [h1]
    exact Nat.zero_le _
  · rcases h1.2 with q | q | q
    · rw [q.2.2.1]; exact Nat.zero_le _
    · rw [q.2.2.1]; exact Nat.zero_le _
    · have := q.2.2.2
      unfold fok at this
      simp at this
      omega
theorem kind_tis {t : List Nd} {i : Int} (h : (tget t i).kind = 2) : tis t i = true := by
  unfold tis
  rw [h]
  rfl
theorem sr_zero {t : List Nd} {c : Wh} {i : Int} : srE t c i = 0 ↔ (tget t i).kind = 2 ∧ canT t c i 1 = true := by
  unfold srE
  split
  · rename_i h
    exact ⟨fun q => absurd q (by decide), fun q => absurd q.1 h⟩
  · rename_i h
    have h : (tget t i).kind = 2 := Classical.byContradiction h
    split
    · rename_i h2
      exact ⟨fun q => absurd q (by decide), fun q => by rw [h2] at q; exact absurd q.2 (by decide)⟩
    · rename_i h2
      exact ⟨fun _ => ⟨h, by simpa using h2⟩, fun _ => rfl⟩
end Go.Proofs.YtnkjaocmfhjnoaaGreat
namespace Go.Proofs.YtnkjaocmfhjnoaaGreat
open Go Go.RowKit
set_option maxRecDepth 100000

theorem wlk_step (t : List Nd) (c : Wh) (f : Bool) (k : Nat) (n : Nm) (r : List Nm) (i : Int) :
    (srE t c i ≠ 0 ∧ wlk t c f k (n :: r) i = (Fo.zero, srE t c i)) ∨
    (srE t c i = 0 ∧ n = [46] ∧ wlk t c f k (n :: r) i = wlk t c f k r i) ∨
    (srE t c i = 0 ∧ n = [46, 46] ∧ wlk t c f k (n :: r) i = wlk t c f k r (upI t i)) ∨
    (srE t c i = 0 ∧ (n ≠ [46] ∧ n ≠ [46, 46]) ∧ 12 < n.length ∧ wlk t c f k (n :: r) i = (Fo.zero, 36)) ∨
    (srE t c i = 0 ∧ (n ≠ [46] ∧ n ≠ [46, 46]) ∧ ¬ 12 < n.length ∧
      ((fnd (tget t i).ents n = 0 ∧ r ≠ [] ∧ wlk t c f k (n :: r) i = (Fo.zero, 2)) ∨
       (¬ (fnd (tget t i).ents n = 0 ∧ r ≠ []) ∧ ((tget t (fnd (tget t i).ents n)).kind = 3 ∧ (f = true ∨ r ≠ [])) ∧
          ((k = 0 ∧ wlk t c f k (n :: r) i = (Fo.zero, 40)) ∨
           (∃ j, k = j + 1 ∧ wlk t c f k (n :: r) i = wlk t c f j (splitP (tget t (fnd (tget t i).ents n)).target ++ r) (if absP (tget t (fnd (tget t i).ents n)).target = true then 1 else i)))) ∨
       (¬ ((tget t (fnd (tget t i).ents n)).kind = 3 ∧ (f = true ∨ r ≠ [])) ∧ r = [] ∧ wlk t c f k (n :: r) i = (⟨i, n, fnd (tget t i).ents n⟩, 0)) ∨
       (¬ ((tget t (fnd (tget t i).ents n)).kind = 3 ∧ (f = true ∨ r ≠ [])) ∧ fnd (tget t i).ents n ≠ 0 ∧ r ≠ [] ∧ wlk t c f k (n :: r) i = wlk t c f k r (fnd (tget t i).ents n)))) := by
  by_cases h : srE t c i = 0
  · by_cases h1 : n = [46]
    · exact .inr (.inl ⟨h, h1, wlk_dot h h1⟩)
    by_cases h2 : n = [46, 46]
    · exact .inr (.inr (.inl ⟨h, h2, wlk_up h h2⟩))
    by_cases h3 : 12 < n.length
    · exact .inr (.inr (.inr (.inl ⟨h, ⟨h1, h2⟩, h3, wlk_long h h1 h2 h3⟩)))
    refine .inr (.inr (.inr (.inr ⟨h, ⟨h1, h2⟩, h3, ?_⟩)))
    by_cases h4 : fnd (tget t i).ents n = 0 ∧ r ≠ []
    · exact .inl ⟨h4.1, h4.2, wlk_gone h h1 h2 h3 h4.1 h4.2⟩
    by_cases h5 : (tget t (fnd (tget t i).ents n)).kind = 3 ∧ (f = true ∨ r ≠ [])
    · refine .inr (.inl ⟨h4, h5, ?_⟩)
      cases k with
      | zero => exact .inl ⟨rfl, wlk_loop h h1 h2 h3 h4 h5⟩
      | succ k => exact .inr ⟨k, rfl, wlk_link h h1 h2 h3 h4 h5⟩
    by_cases h6 : r = []
    · exact .inr (.inr (.inl ⟨h5, h6, wlk_last h h1 h2 h3 h5 h6⟩))
    · have h7 : fnd (tget t i).ents n ≠ 0 := fun q => h4 ⟨q, h6⟩
      exact .inr (.inr (.inr ⟨h5, h7, h6, wlk_on h h1 h2 h3 h7 h5 h6⟩))
  · exact .inl ⟨h, wlk_sr h⟩
theorem wlk_ind {P : Nat → List Nm → Int → Prop} (h0 : ∀ k i, P k [] i) (h1 : ∀ k n r i, (∀ j, P k r j) → (∀ k' l j, k' < k → P k' l j) → P k (n :: r) i) : ∀ k l i, P k l i := by
  intro k
  induction k using Nat.strongRecOn with
  | _ k ih =>
    intro l
    induction l with
    | nil => exact h0 k
    | cons n r ih2 => exact fun i => h1 k n r i ih2 (fun k' l j h => ih k' h l j)
theorem dir_par {t : List Nd} (h : Trx t) {i : Int} (hk : (tget t i).kind = 2) : (i = 1 ∧ parF t i = 0) ∨ (1 ≤ parF t i ∧ parF t i < i ∧ (tget t (parF t i)).kind = 2) := by
  have hi := (h.num i).1 (kind_tis hk)
  by_cases q : i = 1
  · refine .inl ⟨q, ?_⟩
    unfold parF
    rw [q, (par_zero t 0).2 h.top]
    rfl
  · refine .inr ?_
    obtain ⟨h3, h5⟩ := h.link i (by omega) hi.2
    have h4 : parT t 0 i ≠ 0 := fun q => by rw [(par_zero t 0).1 q] at h3; omega
    have key : ∀ (t : List Nd) (d : Nat), parT t d i ≠ 0 → ∃ k, ∃ hk : k < t.length, parT t d i = d + k + 1 ∧ cntE (t[k]).ents i ≠ 0 := by
      intro t
      induction t with
      | nil => intro d h; exact absurd rfl h
      | cons n t ih =>
        intro d h
        rw [parT] at h ⊢
        split
        · rename_i q
          rw [if_pos q] at h
          obtain ⟨k, hk, e1, e2⟩ := ih (d + 1) h
          exact ⟨k + 1, by rw [List.length_cons]; omega, by omega, by simpa using e2⟩
        · rename_i q
          exact ⟨0, Nat.succ_pos _, by omega, by simpa using q⟩
    obtain ⟨k, hk', e1, e2⟩ := key t 0 h4
    refine ⟨by unfold parF; omega, (h5 hk).2, ?_⟩
    unfold parF
    rw [e1, show ((0 + k + 1 : Nat) : Int) = (k : Int) + 1 by omega, tget_at hk']
    refine Classical.byContradiction (fun q => e2 ?_)
    rw [ok_ents h.ok (List.getElem_mem hk') q]
    rfl
theorem npF_ne : ∀ (p cur : List UInt8), ∀ n ∈ npF cur p, n ≠ []
  | [], cur, n, h => by
    rw [npF] at h
    split at h
    · cases h
    · rw [List.mem_singleton] at h
      subst h
      assumption
  | c :: r, cur, n, h => by
    rw [npF] at h
    split at h
    · split at h
      · exact npF_ne r _ n h
      · rcases List.mem_cons.1 h with h | h
        · subst h
          assumption
        · exact npF_ne r _ n h
    · exact npF_ne r _ n h
theorem split_ne (p : List UInt8) : ∀ n ∈ splitP p, n ≠ [] := by
  unfold splitP
  split
  · intro n h
    rcases List.mem_append.1 h with h | h
    · exact npF_ne p [] n h
    · rw [List.mem_singleton] at h
      rw [h]
      decide
  · exact npF_ne p []
theorem itr_succ (f : Int → Int) : ∀ (m : Nat) (i : Int), itr f (m + 1) i = f (itr f m i) := fun m i => by
  rw [itr_add f m 1 i]
  rfl

/-! Root, and others. -/
def wh0 : Wh := ⟨0, 0, []⟩
end Go.Proofs.YtnkjaocmfhjnoaaGreat
namespace Go.Proofs.YtnkjaocmfhjnoaaGreat
open Go Go.RowKit
set_option maxRecDepth 100000

theorem up_ne {t : List Nd} {i : Int} (h : i ≠ 0) : upI t i ≠ 0 := by
  unfold upI
  split
  · omega
  · exact h
theorem zero_kind (t : List Nd) : (tget t 0).kind = 0 := by
  rw [tget_out (by omega)]
  rfl
end Go.Proofs.YtnkjaocmfhjnoaaGreat
namespace Go.Proofs.YtnkjaocmfhjnoaaGreat
open Go Go.RowKit
set_option maxRecDepth 100000

structure Sta where
  node : Int
  kind : Int
  mode : Int
  uid : Int
  gid : Int
  links : Int
  size : Int
def Sta.zero : Sta := ⟨0, 0, 0, 0, 0, 0, 0⟩
def staT (t : List Nd) (i : Int) : Sta := if tis t i = true then ⟨i, (tget t i).kind, (tget t i).mode, (tget t i).uid, (tget t i).gid, (linkT t i : Int), sizM (tget t i)⟩ else Sta.zero
def staF (t : List Nd) (R : Fo × Int) : Sta × Int := if R.2 ≠ 0 then (Sta.zero, R.2) else if tis t R.1.node = true then (staT t R.1.node, 0) else (Sta.zero, 2)
def staM (t : List Nd) (c : Wh) (p : Nm) (f : Bool) : Sta × Int := staF t (resM t c p f)
def rdlM (t : List Nd) (c : Wh) (p : Nm) : Nm × Int :=
  if (staM t c p false).2 ≠ 0 then ([], (staM t c p false).2) else if (staM t c p false).1.kind ≠ 3 then ([], 22) else ((tget t (staM t c p false).1.node).target, 0)
def lstM (t : List Nd) (c : Wh) (p : Nm) : List Nm × Int :=
  if (staM t c p true).2 ≠ 0 then ([], (staM t c p true).2) else if (staM t c p true).1.kind ≠ 2 then ([], 20) else if canT t c (staM t c p true).1.node 4 = false then ([], 13) else (nmE (tget t (staM t c p true).1.node).ents, 0)
theorem sta_is {t : List Nd} {i : Int} (h : tis t i = true) : staT t i = ⟨i, (tget t i).kind, (tget t i).mode, (tget t i).uid, (tget t i).gid, (linkT t i : Int), sizM (tget t i)⟩ := if_pos h
theorem sta_node {t : List Nd} {i : Int} (h : tis t i = true) : (staT t i).node = i := by rw [sta_is h]
theorem staF_zero {t : List Nd} {R : Fo × Int} (h : (staF t R).2 = 0) : R.2 = 0 ∧ tis t R.1.node = true ∧ staF t R = (staT t R.1.node, 0) := by
  unfold staF at h ⊢
  by_cases q : R.2 = 0
  · rw [if_neg (fun r => r q)] at h ⊢
    by_cases q2 : tis t R.1.node = true
    · rw [if_pos q2]
      exact ⟨q, q2, rfl⟩
    · rw [if_neg q2] at h
      exact absurd h (by decide)
  · rw [if_pos q] at h
    exact absurd h q
theorem staM_zero {t : List Nd} {c : Wh} {p : Nm} {f : Bool} (h : (staM t c p f).2 = 0) :
    (resM t c p f).2 = 0 ∧ tis t (staM t c p f).1.node = true ∧ (resM t c p f).1.node = (staM t c p f).1.node ∧ (staM t c p f).1 = staT t (staM t c p f).1.node := by
  obtain ⟨h1, h2, h3⟩ := staF_zero h
  have e1 : (staM t c p f).1 = staT t (resM t c p f).1.node := by unfold staM; rw [h3]
  have e2 : (staM t c p f).1.node = (resM t c p f).1.node := by rw [e1, sta_node h2]
  refine ⟨h1, by rw [e2]; exact h2, e2.symm, by rw [e2]; exact e1⟩
structure Nok (n : Nm) : Prop where
  len : ¬ 12 < n.length
  ne : ¬ n = []
  dot : n ≠ [46]
  dots : n ≠ [46, 46]
  sl : noSl n
  nul : n.contains 0 = false
theorem nok_nok {n : Nm} (hn : nok n = true) : Nok n := by
  have hb : badN n = false ∧ n.length ≤ 12 := by simpa [nok] using hn
  have hb1 := hb.1
  unfold badN at hb1
  simp only [Bool.or_eq_false_iff, beq_eq_false_iff_ne] at hb1
  obtain ⟨⟨⟨⟨h0, h1⟩, h2⟩, h4⟩, h5⟩ := hb1
  refine ⟨by have := hb.2; omega, h0, h1, h2, fun x hx q => ?_, h5⟩
  subst q
  have : n.contains 47 = true := by simpa using hx
  rw [this] at h4
  cases h4
theorem fit_why {t : List Nd} {p : Nm} : fitE t p = 0 ↔ p ≠ [] ∧ ¬ 64 < p.length ∧ p.contains 0 = false ∧ tis t 1 = true := by
  unfold fitE
  by_cases h1 : p = []
  · simp [h1]
  by_cases h2 : 64 < p.length
  · simp [h1, h2]
  cases h3 : p.contains 0
  · cases h4 : tis t 1 <;> simp [h1, h2]
  · simp [h1, h2]

/-! A name below a path. -/
end Go.Proofs.YtnkjaocmfhjnoaaGreat
namespace Go.Proofs.YtnkjaocmfhjnoaaGreat
open Go Go.RowKit
set_option maxRecDepth 100000

attribute [local go_sem] cell_off4 cell_blk4
end Go.Proofs.YtnkjaocmfhjnoaaGreat
namespace Go.Proofs.YtnkjaocmfhjnoaaGreat
open Go Go.RowKit

end Go.Proofs.YtnkjaocmfhjnoaaGreat
namespace Go.Proofs.YtnkjaocmfhjnoaaGreat
open Go Go.RowKit
set_option maxRecDepth 100000

def dropM (t : Bool) (y k : Int) : Int := if t = true then bits .andNot .i64 y k else y
def modeM (u g : Int) (gs : List Int) (kind y m : Int) : Int := dropM (!(u == 0) && !(kind != 1) && !(y == g || gs.contains y)) (m % 4096) 1024
def writM (u kind m : Int) : Int := dropM ((!(u == 0) && !(kind != 1)) && bits .and .i64 (cls m 1) 1 != 0) (dropM (!(u == 0) && !(kind != 1)) (m % 4096) 2048) 1024
def mayOwn (u g : Int) (gs : List Int) (x y tu tg : Int) : Bool := u == 0 || (x == u && (tu == x || decide (tu < 0)) && (tg == y || decide (tg < 0) || (tg == g || gs.contains tg)))
def clr (m b : Int) : Int := m - m / b % 2 * b
theorem clr_at : ∀ a b : Fin 64, bits .andNot .i64 (((a.val * 64 + b.val : Nat) : Int)) 1024 = clr ((a.val * 64 + b.val : Nat) : Int) 1024 ∧ bits .andNot .i64 (((a.val * 64 + b.val : Nat) : Int)) 2048 = clr ((a.val * 64 + b.val : Nat) : Int) 2048 := by decide +kernel
theorem clr_own (m : Int) (h0 : 0 ≤ m) (h1 : m < 4096) : bits .andNot .i64 m 1024 = clr m 1024 ∧ bits .andNot .i64 m 2048 = clr m 2048 := by
  have h := clr_at ⟨(m / 64).toNat, by omega⟩ ⟨(m % 64).toNat, by omega⟩
  simp only [show (((m / 64).toNat * 64 + (m % 64).toNat : Nat) : Int) = m by omega] at h
  exact h
theorem clr_bd (m b : Int) (hb : b = 1024 ∨ b = 2048) (h0 : 0 ≤ m) (h1 : m < 4096) : 0 ≤ clr m b ∧ clr m b < 4096 := by
  unfold clr
  rcases hb with rfl | rfl <;> omega
theorem drop_bd (t : Bool) (y b : Int) (hb : b = 1024 ∨ b = 2048) (h0 : 0 ≤ y) (h1 : y < 4096) : 0 ≤ dropM t y b ∧ dropM t y b < 4096 := by
  have hc := clr_own y h0 h1
  have hd := clr_bd y b hb h0 h1
  unfold dropM
  split
  · rcases hb with rfl | rfl
    · rw [hc.1]; exact hd
    · rw [hc.2]; exact hd
  · exact ⟨h0, h1⟩
theorem mode_bd (u g : Int) (gs : List Int) (kind y m : Int) : 0 ≤ modeM u g gs kind y m ∧ modeM u g gs kind y m < 4096 := drop_bd _ _ _ (.inl rfl) (by omega) (by omega)
theorem writ_bd (u kind m : Int) : 0 ≤ writM u kind m ∧ writM u kind m < 4096 := by
  have h := drop_bd (!(u == 0) && !(kind != 1)) (m % 4096) 2048 (.inr rfl) (by omega) (by omega)
  exact drop_bd _ _ _ (.inl rfl) h.1 h.2
theorem writ_all {u kind m : Int} (h : u = 0 ∨ kind ≠ 1) (h0 : 0 ≤ m) (h1 : m < 4096) : writM u kind m = m := by
  unfold writM dropM
  have e : (!(u == 0) && !(kind != 1)) = false := by rcases h with h | h <;> simp [h]
  rw [e, Bool.false_and, if_neg (by decide), if_neg (by decide)]
  omega
end Go.Proofs.YtnkjaocmfhjnoaaGreat
