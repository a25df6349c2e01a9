/-
  What node.Right, node.Same, the statement's few and model, slices.Index, and the reference's Right and Same of nodes answer. The conditions are said at each.
-/
import Derived.Test.YtilepnepcamnaaaMB
import Derived.Laws.Cover1
import Derived.Laws.StructEq
import Derived.Deep.RegionHeld3
import Derived.Deep.RegionWith
import Derived.Laws.IdiomStrings
namespace Go.Proofs.Ytilepnepcamnaaa
open Go Go.RowKit
set_option maxRecDepth 100000

theorem cell_off4 (W : World) (b i j : Nat) (v : Value) (h : i ≠ j) : (W.setCell ⟨b, i, none⟩ v).cell? ⟨b, j, none⟩ = W.cell? ⟨b, j, none⟩ :=
  World.cell?_setCell_other _ _ _ _ (fun e => h (by injection e))
theorem cell_blk4 (W : World) (b b' i j : Nat) (v : Value) (h : b ≠ b') : (W.setCell ⟨b, i, none⟩ v).cell? ⟨b', j, none⟩ = W.cell? ⟨b', j, none⟩ :=
  World.cell?_setCell_other _ _ _ _ (fun e => h (by injection e))
/-- Seven cells that are stored, one behind the other. -/
def put7 (w : World) (g : Nat) (u0 u1 u2 u3 u4 u5 u6 : Value) : World :=
  ((((((w.setCell ⟨g, 0, none⟩ u0).setCell ⟨g, 1, none⟩ u1).setCell ⟨g, 2, none⟩ u2).setCell ⟨g, 3, none⟩ u3).setCell ⟨g, 4, none⟩ u4).setCell ⟨g, 5, none⟩ u5).setCell ⟨g, 6, none⟩ u6
def put8 (w : World) (g : Nat) (u0 u1 u2 u3 u4 u5 u6 u7 : Value) : World := (put7 w g u0 u1 u2 u3 u4 u5 u6).setCell ⟨g, 7, none⟩ u7
theorem grown7 (w : World) (g : Nat) (u0 u1 u2 u3 u4 u5 u6 : Value) : w.grownBy (put7 w g u0 u1 u2 u3 u4 u5 u6) (some g) := by
  have h := fun (W : World) (i : Nat) (u : Value) => grown_setCell W ⟨g, i, none⟩ u
  exact grown_trans (grown_trans (grown_trans (grown_trans (grown_trans (grown_trans (h _ _ _) (h _ _ _)) (h _ _ _)) (h _ _ _)) (h _ _ _)) (h _ _ _)) (h _ _ _)
theorem grown8 (w : World) (g : Nat) (u0 u1 u2 u3 u4 u5 u6 u7 : Value) : w.grownBy (put8 w g u0 u1 u2 u3 u4 u5 u6 u7) (some g) := grown_trans (grown7 w g u0 u1 u2 u3 u4 u5 u6) (grown_setCell _ ⟨g, 7, none⟩ u7)
section
variable {w : World} {g : Nat} {t : TypeId} {a0 a1 a2 a3 a4 a5 a6 a7 : Value}
theorem Blk.set7_0 (h : Blk w g t #[a0, a1, a2, a3, a4, a5, a6]) (u : Value) : Blk (w.setCell ⟨g, 0, none⟩ u) g t #[u, a1, a2, a3, a4, a5, a6] := by simpa using h.set_ 0 u
theorem Blk.set7_1 (h : Blk w g t #[a0, a1, a2, a3, a4, a5, a6]) (u : Value) : Blk (w.setCell ⟨g, 1, none⟩ u) g t #[a0, u, a2, a3, a4, a5, a6] := by simpa using h.set_ 1 u
theorem Blk.set7_2 (h : Blk w g t #[a0, a1, a2, a3, a4, a5, a6]) (u : Value) : Blk (w.setCell ⟨g, 2, none⟩ u) g t #[a0, a1, u, a3, a4, a5, a6] := by simpa using h.set_ 2 u
theorem Blk.set7_3 (h : Blk w g t #[a0, a1, a2, a3, a4, a5, a6]) (u : Value) : Blk (w.setCell ⟨g, 3, none⟩ u) g t #[a0, a1, a2, u, a4, a5, a6] := by simpa using h.set_ 3 u
theorem Blk.set7_4 (h : Blk w g t #[a0, a1, a2, a3, a4, a5, a6]) (u : Value) : Blk (w.setCell ⟨g, 4, none⟩ u) g t #[a0, a1, a2, a3, u, a5, a6] := by simpa using h.set_ 4 u
theorem Blk.set7_5 (h : Blk w g t #[a0, a1, a2, a3, a4, a5, a6]) (u : Value) : Blk (w.setCell ⟨g, 5, none⟩ u) g t #[a0, a1, a2, a3, a4, u, a6] := by simpa using h.set_ 5 u
theorem Blk.set7_6 (h : Blk w g t #[a0, a1, a2, a3, a4, a5, a6]) (u : Value) : Blk (w.setCell ⟨g, 6, none⟩ u) g t #[a0, a1, a2, a3, a4, a5, u] := by simpa using h.set_ 6 u
theorem Blk.put7 (h : Blk w g t #[a0, a1, a2, a3, a4, a5, a6]) (u0 u1 u2 u3 u4 u5 u6 : Value) : Blk (put7 w g u0 u1 u2 u3 u4 u5 u6) g t #[u0, u1, u2, u3, u4, u5, u6] := (((((((h.set7_0 u0).set7_1 u1).set7_2 u2).set7_3 u3).set7_4 u4).set7_5 u5).set7_6 u6)
/-- What the cells are. -/
theorem Blk.c7 (h : Blk w g t #[a0, a1, a2, a3, a4, a5, a6]) : w.cell? ⟨g, 0, none⟩ = some a0 ∧ w.cell? ⟨g, 1, none⟩ = some a1 ∧ w.cell? ⟨g, 2, none⟩ = some a2 ∧ w.cell? ⟨g, 3, none⟩ = some a3 ∧ w.cell? ⟨g, 4, none⟩ = some a4 ∧ w.cell? ⟨g, 5, none⟩ = some a5 ∧ w.cell? ⟨g, 6, none⟩ = some a6 :=
  ⟨h.cell 0, h.cell 1, h.cell 2, h.cell 3, h.cell 4, h.cell 5, h.cell 6⟩
theorem Blk.f7 (h : Blk w g t #[a0, a1, a2, a3, a4, a5, a6]) : w.frozen? ⟨g, 0, none⟩ = false ∧ w.frozen? ⟨g, 1, none⟩ = false ∧ w.frozen? ⟨g, 2, none⟩ = false ∧ w.frozen? ⟨g, 3, none⟩ = false ∧ w.frozen? ⟨g, 4, none⟩ = false ∧ w.frozen? ⟨g, 5, none⟩ = false ∧ w.frozen? ⟨g, 6, none⟩ = false :=
  ⟨h.frozen 0, h.frozen 1, h.frozen 2, h.frozen 3, h.frozen 4, h.frozen 5, h.frozen 6⟩
/-- What is stored is read again. -/
theorem Blk.s7 (h : Blk w g t #[a0, a1, a2, a3, a4, a5, a6]) : (∀ u0, (w.setCell ⟨g, 0, none⟩ u0).cell? ⟨g, 0, none⟩ = some u0) ∧
    (∀ u0 u1, ((w.setCell ⟨g, 0, none⟩ u0).setCell ⟨g, 1, none⟩ u1).cell? ⟨g, 1, none⟩ = some u1) ∧
    (∀ u0 u1 u2, (((w.setCell ⟨g, 0, none⟩ u0).setCell ⟨g, 1, none⟩ u1).setCell ⟨g, 2, none⟩ u2).cell? ⟨g, 2, none⟩ = some u2) ∧
    (∀ u0 u1 u2 u3, ((((w.setCell ⟨g, 0, none⟩ u0).setCell ⟨g, 1, none⟩ u1).setCell ⟨g, 2, none⟩ u2).setCell ⟨g, 3, none⟩ u3).cell? ⟨g, 3, none⟩ = some u3) ∧
    (∀ u0 u1 u2 u3 u4, (((((w.setCell ⟨g, 0, none⟩ u0).setCell ⟨g, 1, none⟩ u1).setCell ⟨g, 2, none⟩ u2).setCell ⟨g, 3, none⟩ u3).setCell ⟨g, 4, none⟩ u4).cell? ⟨g, 4, none⟩ = some u4) ∧
    (∀ u0 u1 u2 u3 u4 u5, ((((((w.setCell ⟨g, 0, none⟩ u0).setCell ⟨g, 1, none⟩ u1).setCell ⟨g, 2, none⟩ u2).setCell ⟨g, 3, none⟩ u3).setCell ⟨g, 4, none⟩ u4).setCell ⟨g, 5, none⟩ u5).cell? ⟨g, 5, none⟩ = some u5) ∧
    (∀ u0 u1 u2 u3 u4 u5 u6, (((((((w.setCell ⟨g, 0, none⟩ u0).setCell ⟨g, 1, none⟩ u1).setCell ⟨g, 2, none⟩ u2).setCell ⟨g, 3, none⟩ u3).setCell ⟨g, 4, none⟩ u4).setCell ⟨g, 5, none⟩ u5).setCell ⟨g, 6, none⟩ u6).cell? ⟨g, 6, none⟩ = some u6) :=
  ⟨fun u0 => (h.set7_0 u0).cell 0,
    fun u0 u1 => ((h.set7_0 u0).set7_1 u1).cell 1,
    fun u0 u1 u2 => (((h.set7_0 u0).set7_1 u1).set7_2 u2).cell 2,
    fun u0 u1 u2 u3 => ((((h.set7_0 u0).set7_1 u1).set7_2 u2).set7_3 u3).cell 3,
    fun u0 u1 u2 u3 u4 => (((((h.set7_0 u0).set7_1 u1).set7_2 u2).set7_3 u3).set7_4 u4).cell 4,
    fun u0 u1 u2 u3 u4 u5 => ((((((h.set7_0 u0).set7_1 u1).set7_2 u2).set7_3 u3).set7_4 u4).set7_5 u5).cell 5,
    fun u0 u1 u2 u3 u4 u5 u6 => (((((((h.set7_0 u0).set7_1 u1).set7_2 u2).set7_3 u3).set7_4 u4).set7_5 u5).set7_6 u6).cell 6⟩
theorem Blk.set8_0 (h : Blk w g t #[a0, a1, a2, a3, a4, a5, a6, a7]) (u : Value) : Blk (w.setCell ⟨g, 0, none⟩ u) g t #[u, a1, a2, a3, a4, a5, a6, a7] := by simpa using h.set_ 0 u
theorem Blk.set8_1 (h : Blk w g t #[a0, a1, a2, a3, a4, a5, a6, a7]) (u : Value) : Blk (w.setCell ⟨g, 1, none⟩ u) g t #[a0, u, a2, a3, a4, a5, a6, a7] := by simpa using h.set_ 1 u
theorem Blk.set8_2 (h : Blk w g t #[a0, a1, a2, a3, a4, a5, a6, a7]) (u : Value) : Blk (w.setCell ⟨g, 2, none⟩ u) g t #[a0, a1, u, a3, a4, a5, a6, a7] := by simpa using h.set_ 2 u
theorem Blk.set8_3 (h : Blk w g t #[a0, a1, a2, a3, a4, a5, a6, a7]) (u : Value) : Blk (w.setCell ⟨g, 3, none⟩ u) g t #[a0, a1, a2, u, a4, a5, a6, a7] := by simpa using h.set_ 3 u
theorem Blk.set8_4 (h : Blk w g t #[a0, a1, a2, a3, a4, a5, a6, a7]) (u : Value) : Blk (w.setCell ⟨g, 4, none⟩ u) g t #[a0, a1, a2, a3, u, a5, a6, a7] := by simpa using h.set_ 4 u
theorem Blk.set8_5 (h : Blk w g t #[a0, a1, a2, a3, a4, a5, a6, a7]) (u : Value) : Blk (w.setCell ⟨g, 5, none⟩ u) g t #[a0, a1, a2, a3, a4, u, a6, a7] := by simpa using h.set_ 5 u
theorem Blk.set8_6 (h : Blk w g t #[a0, a1, a2, a3, a4, a5, a6, a7]) (u : Value) : Blk (w.setCell ⟨g, 6, none⟩ u) g t #[a0, a1, a2, a3, a4, a5, u, a7] := by simpa using h.set_ 6 u
theorem Blk.set8_7 (h : Blk w g t #[a0, a1, a2, a3, a4, a5, a6, a7]) (u : Value) : Blk (w.setCell ⟨g, 7, none⟩ u) g t #[a0, a1, a2, a3, a4, a5, a6, u] := by simpa using h.set_ 7 u
theorem Blk.put8 (h : Blk w g t #[a0, a1, a2, a3, a4, a5, a6, a7]) (u0 u1 u2 u3 u4 u5 u6 u7 : Value) : Blk (put8 w g u0 u1 u2 u3 u4 u5 u6 u7) g t #[u0, u1, u2, u3, u4, u5, u6, u7] := ((((((((h.set8_0 u0).set8_1 u1).set8_2 u2).set8_3 u3).set8_4 u4).set8_5 u5).set8_6 u6).set8_7 u7)
/-- What the cells are. -/
theorem Blk.c8 (h : Blk w g t #[a0, a1, a2, a3, a4, a5, a6, a7]) : w.cell? ⟨g, 0, none⟩ = some a0 ∧ w.cell? ⟨g, 1, none⟩ = some a1 ∧ w.cell? ⟨g, 2, none⟩ = some a2 ∧ w.cell? ⟨g, 3, none⟩ = some a3 ∧ w.cell? ⟨g, 4, none⟩ = some a4 ∧ w.cell? ⟨g, 5, none⟩ = some a5 ∧ w.cell? ⟨g, 6, none⟩ = some a6 ∧ w.cell? ⟨g, 7, none⟩ = some a7 :=
  ⟨h.cell 0, h.cell 1, h.cell 2, h.cell 3, h.cell 4, h.cell 5, h.cell 6, h.cell 7⟩
theorem Blk.f8 (h : Blk w g t #[a0, a1, a2, a3, a4, a5, a6, a7]) : w.frozen? ⟨g, 0, none⟩ = false ∧ w.frozen? ⟨g, 1, none⟩ = false ∧ w.frozen? ⟨g, 2, none⟩ = false ∧ w.frozen? ⟨g, 3, none⟩ = false ∧ w.frozen? ⟨g, 4, none⟩ = false ∧ w.frozen? ⟨g, 5, none⟩ = false ∧ w.frozen? ⟨g, 6, none⟩ = false ∧ w.frozen? ⟨g, 7, none⟩ = false :=
  ⟨h.frozen 0, h.frozen 1, h.frozen 2, h.frozen 3, h.frozen 4, h.frozen 5, h.frozen 6, h.frozen 7⟩
/-- What is stored is read again. -/
theorem Blk.s8 (h : Blk w g t #[a0, a1, a2, a3, a4, a5, a6, a7]) : (∀ u0, (w.setCell ⟨g, 0, none⟩ u0).cell? ⟨g, 0, none⟩ = some u0) ∧
    (∀ u0 u1, ((w.setCell ⟨g, 0, none⟩ u0).setCell ⟨g, 1, none⟩ u1).cell? ⟨g, 1, none⟩ = some u1) ∧
    (∀ u0 u1 u2, (((w.setCell ⟨g, 0, none⟩ u0).setCell ⟨g, 1, none⟩ u1).setCell ⟨g, 2, none⟩ u2).cell? ⟨g, 2, none⟩ = some u2) ∧
    (∀ u0 u1 u2 u3, ((((w.setCell ⟨g, 0, none⟩ u0).setCell ⟨g, 1, none⟩ u1).setCell ⟨g, 2, none⟩ u2).setCell ⟨g, 3, none⟩ u3).cell? ⟨g, 3, none⟩ = some u3) ∧
    (∀ u0 u1 u2 u3 u4, (((((w.setCell ⟨g, 0, none⟩ u0).setCell ⟨g, 1, none⟩ u1).setCell ⟨g, 2, none⟩ u2).setCell ⟨g, 3, none⟩ u3).setCell ⟨g, 4, none⟩ u4).cell? ⟨g, 4, none⟩ = some u4) ∧
    (∀ u0 u1 u2 u3 u4 u5, ((((((w.setCell ⟨g, 0, none⟩ u0).setCell ⟨g, 1, none⟩ u1).setCell ⟨g, 2, none⟩ u2).setCell ⟨g, 3, none⟩ u3).setCell ⟨g, 4, none⟩ u4).setCell ⟨g, 5, none⟩ u5).cell? ⟨g, 5, none⟩ = some u5) ∧
    (∀ u0 u1 u2 u3 u4 u5 u6, (((((((w.setCell ⟨g, 0, none⟩ u0).setCell ⟨g, 1, none⟩ u1).setCell ⟨g, 2, none⟩ u2).setCell ⟨g, 3, none⟩ u3).setCell ⟨g, 4, none⟩ u4).setCell ⟨g, 5, none⟩ u5).setCell ⟨g, 6, none⟩ u6).cell? ⟨g, 6, none⟩ = some u6) ∧
    (∀ u0 u1 u2 u3 u4 u5 u6 u7, ((((((((w.setCell ⟨g, 0, none⟩ u0).setCell ⟨g, 1, none⟩ u1).setCell ⟨g, 2, none⟩ u2).setCell ⟨g, 3, none⟩ u3).setCell ⟨g, 4, none⟩ u4).setCell ⟨g, 5, none⟩ u5).setCell ⟨g, 6, none⟩ u6).setCell ⟨g, 7, none⟩ u7).cell? ⟨g, 7, none⟩ = some u7) :=
  ⟨fun u0 => (h.set8_0 u0).cell 0,
    fun u0 u1 => ((h.set8_0 u0).set8_1 u1).cell 1,
    fun u0 u1 u2 => (((h.set8_0 u0).set8_1 u1).set8_2 u2).cell 2,
    fun u0 u1 u2 u3 => ((((h.set8_0 u0).set8_1 u1).set8_2 u2).set8_3 u3).cell 3,
    fun u0 u1 u2 u3 u4 => (((((h.set8_0 u0).set8_1 u1).set8_2 u2).set8_3 u3).set8_4 u4).cell 4,
    fun u0 u1 u2 u3 u4 u5 => ((((((h.set8_0 u0).set8_1 u1).set8_2 u2).set8_3 u3).set8_4 u4).set8_5 u5).cell 5,
    fun u0 u1 u2 u3 u4 u5 u6 => (((((((h.set8_0 u0).set8_1 u1).set8_2 u2).set8_3 u3).set8_4 u4).set8_5 u5).set8_6 u6).cell 6,
    fun u0 u1 u2 u3 u4 u5 u6 u7 => ((((((((h.set8_0 u0).set8_1 u1).set8_2 u2).set8_3 u3).set8_4 u4).set8_5 u5).set8_6 u6).set8_7 u7).cell 7⟩
end
theorem EntsX.kept {w w' : World} {B g : Nat} {v : Value} {l : List En} {cs : Array Value} {t : TypeId} (h : EntsX w B v l) (hk : Blk w g t cs) (ht : t ≠ 70) (hg : w.grownBy w' (some g)) : EntsX w' B v l := by
  rcases h with h | ⟨g', h1, h2, h3, h4⟩
  · exact .inl h
  · refine .inr ⟨g', h1, h2, h3, h4.kept hg ?_⟩
    intro e
    injection e with e
    subst e
    unfold Blk at hk h4
    rw [hk] at h4
    injection h4 with h4
    injection h4 with _ h4
    exact ht h4
theorem EntsX.lower {w : World} {B B' : Nat} {v : Value} {l : List En} (h : EntsX w B v l) (hB : B' ≤ B) : EntsX w B' v l := by
  rcases h with h | ⟨g, h1, h2⟩
  · exact .inl h
  · exact .inr ⟨g, Nat.le_trans hB h1, h2⟩
theorem BytesX.lower {w : World} {B B' : Nat} {v : Value} {l : List UInt8} (h : BytesX w B v l) (hB : B' ≤ B) : BytesX w B' v l := by
  rcases h with h | ⟨g, h1, h2⟩
  · exact .inl h
  · exact .inr ⟨g, Nat.le_trans hB h1, h2⟩
theorem below_grown {w0 w w' : World} {g : Nat} (hb : Below w0.heap.size w0 w) (hg : w.grownBy w' (some g)) (h : w0.heap.size ≤ g) : Below w0.heap.size w0 w' := hb.grown hg hb.size (fun q hq => by injection hq with hq; omega)
/-- A node's cells. -/
abbrev ndC (n : Nd) (vd ve : Value) : Array Value := #[.int .i64 n.kind, .int .i64 n.mode, .int .i64 n.uid, .int .i64 n.gid, vd, ve, .string (bA n.target)]
abbrev ndZ : Array Value := #[.int .i64 0, .int .i64 0, .int .i64 0, .int .i64 0, .slice none 0 0, .slice none 0 0, .string ⟨#[]⟩]
theorem slice_one (A : Option Addr) (n c : Nat) : (Value.slice A n c).oneCell' = true := rfl
theorem entsX_form {w : World} {B : Nat} {v : Value} {l : List En} (h : EntsX w B v l) : ∃ A c, v = .slice A l.length c := ents_form h.ents rfl
theorem bytesX_form {w : World} {B : Nat} {v : Value} {l : List UInt8} (h : BytesX w B v l) : ∃ A c, v = .slice A l.length c := bytes_form h.bytes rfl
theorem blk_setRow {w : World} {g : Nat} {t : TypeId} {cs ds : Array Value} (h : Blk w g t cs) : Blk (w.setRow g ds) g t ds := setRow_heap w g cs ds t (0, 0) h
theorem info_ent : (Try.prog.info? 70).map (fun i => (i.zero, i.size, i.bytes)) = some (some (.agg #[.string ⟨#[]⟩, .int .i64 0]), 2, 24) := by kernel_rfl
theorem info_u8 : (Try.prog.info? 5).map (fun i => (i.zero, i.size, i.bytes)) = some (some (.int .u8 0), 1, 1) := by kernel_rfl
theorem info_int : (Try.prog.info? 3).map (fun i => (i.zero, i.size, i.bytes)) = some (some (.int .i64 0), 1, 8) := by kernel_rfl
theorem size_ent : (Try.prog.info? 70).map (·.size) = some 2 := by kernel_rfl
theorem size_u8 : (Try.prog.info? 5).map (·.size) = some 1 := by kernel_rfl
theorem box_ents {w : World} {n : Nd} {vd ve : Value} (he : EntsR w ve n.ents) : EntsR (w.alloc (.cells (ndC n vd ve) 39)) ve n.ents := he.below (ba _ _)
theorem ent_one (e : En) : ∀ u ∈ [Value.string (bA e.1), .int .i64 e.2], u.oneCell' = true := by
  intro u hu
  simp only [List.mem_cons, List.mem_nil_iff, or_false] at hu
  rcases hu with rfl | rfl <;> rfl
theorem EntsR.of_own {w : World} {B : Nat} {e : TypeId} {v : Value} {l : List En} (h : w.ownsRow B e 2 v l.length (eCells l)) : EntsR w v l := by
  rcases h.2 with ⟨rfl, hn⟩ | ⟨g, cap, cur, rfl, _⟩
  · have : l = [] := List.eq_nil_of_length_eq_zero hn
    subst this
    exact EntsR.nil w
  · refine ⟨some ⟨g, 0, none⟩, cap, rfl, fun k a hk => ⟨_, rfl, ?_⟩⟩
    obtain ⟨h0, h1⟩ := eCells_at l k a hk
    rw [add_lit]
    exact ⟨row_at h _ _ h0, row_at h _ _ h1⟩
theorem EntsT.of_own {w : World} {B : Nat} {v : Value} {l : List En} (h : w.ownsRow B 70 2 v l.length (eCells l)) : EntsT w v l := by
  refine ⟨EntsR.of_own h, fun ad n c hv => ?_⟩
  rcases h.2 with ⟨rfl, hn⟩ | ⟨g, cap, cur, rfl, _, hh, _⟩
  · injection hv with hv; cases hv
  · injection hv with hA
    injection hA with hA
    subst hA
    exact ⟨cur, hh⟩
theorem EntsX.own {w : World} {B : Nat} {v : Value} {l : List En} (h : EntsX w B v l) (hn : l.length ≤ 1000000) : w.ownsRow B 70 2 v l.length (eCells l) := by
  rcases h with ⟨rfl, rfl⟩ | ⟨g, h1, rfl, -, h4⟩
  · exact World.ownsRow_nil _ _ _ _
  · refine ⟨eCells_len l, .inr ⟨g, l.length, _, rfl, h1, h4, Nat.le_refl _, by unfold maxLen; omega, ?_, ?_⟩⟩
    · rw [List.size_toArray, eCells_len]
    · rw [List.take_of_length_le (by rw [eCells_len]; exact Nat.le_refl _)]
end Go.Proofs.Ytilepnepcamnaaa
namespace Go.Proofs.Ytilepnepcamnaaa
open Go Go.RowKit
set_option maxRecDepth 100000

noncomputable def toB (p : Prop) : Bool := @decide p (Classical.propDecidable p)
theorem toB_true {p : Prop} (h : p) : toB p = true := by unfold toB; exact @decide_eq_true p (Classical.propDecidable p) h
theorem toB_false {p : Prop} (h : ¬ p) : toB p = false := by unfold toB; exact @decide_eq_false p (Classical.propDecidable p) h
theorem toB_iff {p : Prop} : toB p = true ↔ p := by
  constructor
  · intro h
    by_cases hp : p
    · exact hp
    · rw [toB_false hp] at h; cases h
  · exact toB_true
/-- Is a number from 0 up to another? -/
def upB (m x : Int) : Bool := decide (0 ≤ x) && decide (x ≤ m)
theorem upB_iff {m x : Int} : upB m x = true ↔ 0 ≤ x ∧ x ≤ m := by unfold upB; rw [Bool.and_eq_true, decide_eq_true_iff, decide_eq_true_iff]
theorem upB_not {m x : Int} (h : upB m x = false) : ¬ (0 ≤ x ∧ x ≤ m) := fun h2 => by rw [upB_iff.2 h2] at h; cases h
theorem upTo_any (m x : Int) (w : World) : Calls Try.prog 40 #[.int .i64 m, .int .i64 x] w fun e w' => e = .returned (.bool (upB m x)) ∧ w = w' := by
  unfold upB
  by_cases h1 : 0 ≤ x
  · rw [decide_eq_true h1, Bool.true_and]
    go_enter Try.func40, Try.ntmps40
    go_wp2
    go_ret
    exact ⟨rfl, rfl⟩
  · rw [decide_eq_false h1, Bool.false_and]
    go_enter Try.func40, Try.ntmps40
    go_wp2
    go_ret
    exact ⟨rfl, rfl⟩
/-- Entries, as far as they are gone through. -/
def gdP (l : List En) : Prop := (∀ e ∈ l, nok e.1 = true ∧ 1 ≤ e.2) ∧ rise (nmE l)
theorem gdP_nil : gdP [] := ⟨fun e h => (by cases h), List.Pairwise.nil⟩
theorem bdN {W w : World} (h : Below W.heap.size W w) (n : Nat) : Below W.heap.size W (w.drewN n) := ⟨h.os, h.tape, h.output, h.size, h.block⟩
theorem rise_snoc {l : List Nm} {x : Nm} (h : rise l) (hx : ∀ y, l[l.length - 1]? = some y → lss y x = true) : rise (l ++ [x]) := by
  refine rise_adj (fun i a b ha hb => ?_)
  by_cases hi : i + 1 < l.length
  · rw [List.getElem?_append_left (by omega)] at ha
    rw [List.getElem?_append_left hi] at hb
    exact adj_rise h i a b ha hb
  · have hb2 := (List.getElem?_eq_some_iff.1 hb).1
    rw [List.length_append] at hb2
    simp only [List.length_cons, List.length_nil] at hb2
    rw [List.getElem?_append_right (by omega), show i + 1 - l.length = 0 by omega] at hb
    simp at hb
    subst hb
    rw [List.getElem?_append_left (by omega)] at ha
    exact hx a (by rw [show l.length - 1 = i by omega]; exact ha)
theorem gdP_snoc {l : List En} {k : Nat} {e : En} (he : l[k]? = some e) (h : gdP (l.take k)) (h1 : nok e.1 = true) (h2 : 1 ≤ e.2) (h3 : k = 0 ∨ ∃ p, l[k - 1]? = some p ∧ lss p.1 e.1 = true) : gdP (l.take (k + 1)) := by
  rw [take_snoc' he]
  refine ⟨fun f hf => ?_, ?_⟩
  · rcases List.mem_append.1 hf with hf | hf
    · exact h.1 f hf
    · rw [List.mem_singleton] at hf
      subst hf
      exact ⟨h1, h2⟩
  · rw [nmE, List.map_append]
    refine rise_snoc h.2 (fun y hy => ?_)
    rcases h3 with rfl | ⟨p, hp, hl⟩
    · simp at hy
    · have hk : 0 < k := by
        by_cases h0 : k = 0
        · subst h0
          simp at hy
        · omega
      have hlt : k - 1 < l.length := (List.getElem?_eq_some_iff.1 hp).1
      rw [List.length_map, List.length_take, List.getElem?_map, List.getElem?_take] at hy
      rw [show min k l.length - 1 = k - 1 by omega, if_pos (by omega), hp] at hy
      injection hy with hy
      rw [← hy]
      exact hl
theorem cmp_lt {a b : Nm} (h : lss b a = true) : Op.bytesLess (bA a).toList (bA b).toList = false ∧ ((bA a).toList == (bA b).toList) = false := by
  rw [bA_list, bA_list]
  exact ⟨lss_asymm h, by rw [beq_eq_false_iff_ne]; exact fun e => lss_ne h e.symm⟩
theorem cmp_ge {a b : Nm} (h : lss b a = false) : (Op.bytesLess (bA a).toList (bA b).toList = true ∧ ((bA a).toList == (bA b).toList) = false) ∨ (Op.bytesLess (bA a).toList (bA b).toList = false ∧ ((bA a).toList == (bA b).toList) = true) := by
  rw [bA_list, bA_list]
  by_cases he : a = b
  · subst he
    exact .inr ⟨lss_irrefl a, by simp⟩
  · exact .inl ⟨lss_of h (fun e => he e.symm), by rw [beq_eq_false_iff_ne]; exact he⟩
set_option maxRecDepth 100000 in
set_option maxHeartbeats 4000000 in
theorem entsRight_any (v : Value) (l : List En) (w : World) (hR : EntsR w v l) (hn : l.length ≤ 1000) (hsz : ∀ e ∈ l, e.1.length ≤ 1000) :
    Calls Try.prog 41 #[v] w fun e w' => e = .returned (.bool (toB (entsP l))) ∧ Below w.heap.size w w' := by
  obtain ⟨A, c, rfl⟩ := ents_form hR rfl
  have HR := Lib.hid hR
  clear hR
  by_cases h8 : l.length ≤ 8
  · have h8' : ¬ (8 : Int) < (l.length : Int) := by omega
    have HY := Lib.hid (show gdP l → toB (entsP l) = true from fun h => toB_true ⟨h.1, h.2, h8⟩)
    have HN1 := Lib.hid (fun (k : Nat) (e : En) (he : l[k]? = some e) (h : nok e.1 = false) => show toB (entsP l) = false from toB_false (fun hp => by rw [(hp.1 e (List.mem_of_getElem? he)).1] at h; cases h))
    have HN2 := Lib.hid (fun (k : Nat) (e : En) (he : l[k]? = some e) (h : e.2 < 1) => show toB (entsP l) = false from toB_false (fun hp => by have := (hp.1 e (List.mem_of_getElem? he)).2; omega))
    have HN3 := Lib.hid (fun (k : Nat) (e p : En) (hk : 0 < k) (he : l[k]? = some e) (hp : l[k - 1]? = some p) (h : lss p.1 e.1 = false) => show toB (entsP l) = false from toB_false (fun hp2 => by
      have := adj_rise hp2.2.1 (k - 1) p.1 e.1 (nmE_at hp) (by rw [show k - 1 + 1 = k by omega]; exact nmE_at he)
      rw [this] at h
      cases h))
    generalize toB (entsP l) = X at HY HN1 HN2 HN3 ⊢
    go_enter Try.func41, Try.ntmps41
    go_wp2
    go_loopg [10] l.length (fun g s10 wr => ∃ k : Nat, s10 = .int .i64 k ∧ k ≤ l.length ∧ g = l.length - k ∧ gdP (l.take k) ∧ Below w.heap.size w wr)
    case atStart => exact ⟨0, rfl, Nat.zero_le _, rfl, gdP_nil, Below.refl _ _⟩
    case round =>
      obtain ⟨k, rfl, hk, rfl, hgd, hbr⟩ := hrel
      have HGD := Lib.hid hgd
      have HB := Lib.hid hbr
      clear hgd hbr
      by_cases hlt : k < l.length
      · obtain ⟨e, he⟩ : ∃ e, l[k]? = some e := ⟨_, List.getElem?_eq_getElem hlt⟩
        obtain ⟨ad, rfl, c0, c1⟩ := ents_get (HR.out.below HB.out) he
        have HE := Lib.hid he
        have HNM := Lib.hid (fun W => Name_any (bA e.1) W (by rw [size_bA]; have := hsz e (List.mem_of_getElem? he); unfold maxLen; omega))
        rw [nam_nok, tl_bA] at HNM
        clear he
        obtain ⟨NK, hNK⟩ : ∃ NK, nok e.1 = NK := ⟨_, rfl⟩
        rw [hNK] at HNM
        have HK := Lib.hid hNK
        clear hNK
        have hbA := ba wr (.cells #[.string (bA e.1), .int .i64 e.2] 70)
        have HBA := Lib.hid (bt hbA HB.out)
        have hadl : (ad.add (k * 2)).block < wr.heap.size := World.block_lt_of_cell? _ _ c0
        cases NK with
        | false =>
          go_wp2_with fail
          refine (HNM.out _).mono ?_
          rintro e3 w3 ⟨rfl, rfl⟩
          go_wp2
          go_ret
          exact ⟨ret_bool (HN1.out k e HE.out HK.out).symm, HBA.out⟩
        | true =>
          by_cases h2 : e.2 < 1
          · go_wp2_with fail
            refine (HNM.out _).mono ?_
            rintro e3 w3 ⟨rfl, rfl⟩
            go_wp2
            go_ret
            exact ⟨ret_bool (HN2.out k e HE.out h2).symm, HBA.out⟩
          · by_cases h0 : k = 0
            · have hk0 : decide (0 < k) = false := by simp; omega
              have hk1 : ¬ (0 : Int) < (k : Int) := by omega
              have HK0 := Lib.hid h0
              clear h0
              go_wp2_with fail
              refine (HNM.out _).mono ?_
              rintro e3 w3 ⟨rfl, rfl⟩
              have HH2 := Lib.hid h2
              go_wp2_with fail
              go_quiet (fail)
              go_wp2
              go_roundg (l.length - (k + 1))
              case measure => omega
              case rel => exact ⟨k + 1, by go_num, by omega, rfl, gdP_snoc HE.out HGD.out HK.out (by have := HH2.out; omega) (.inl HK0.out), bdN HBA.out _⟩
            · obtain ⟨p, hp⟩ : ∃ p, l[k - 1]? = some p := ⟨_, List.getElem?_eq_getElem (by omega)⟩
              obtain ⟨ad2, hA2, d0, d1⟩ := ents_get (HR.out.below HB.out) hp
              injection hA2 with hA2
              subst hA2
              have HP := Lib.hid hp
              clear hp
              have d0' := bc hbA d0
              obtain ⟨j, hj⟩ : ∃ j, j = k - 1 := ⟨_, rfl⟩
              rw [← hj] at d0 d1 d0' HP
              have kj1 : (k : Int) - 1 = (j : Int) := by omega
              have kj2 : IntKind.i64.wrap ((k : Int) - 1) = (j : Int) := by rw [IntKind.wrap_i64]; omega
              have kj3 : (j : Int) < (l.length : Int) := by omega
              have kj4 : j < l.length := by omega
              have hk0 : decide (0 < k) = true := by simp; omega
              have hk1 : (0 : Int) < (k : Int) := by omega
              have HJ := Lib.hid hj
              have HK0 := Lib.hid h0
              have HH2 := Lib.hid h2
              clear hj h0 d1 hbA
              by_cases hl : lss p.1 e.1 = true
              · obtain ⟨m1, m2⟩ := cmp_lt hl
                have HL := Lib.hid hl
                clear hl
                go_wp2_with fail
                refine (HNM.out _).mono ?_
                rintro e3 w3 ⟨rfl, rfl⟩
                go_wp2_with fail
                go_quiet (fail)
                go_wp2
                go_roundg (l.length - (k + 1))
                case measure => omega
                case rel => exact ⟨k + 1, by go_num, by omega, rfl, gdP_snoc HE.out HGD.out HK.out (by have := HH2.out; omega) (.inr ⟨p, by rw [← HJ.out]; exact HP.out, HL.out⟩), bdN HBA.out _⟩
              · have hl' : lss p.1 e.1 = false := by simpa using hl
                have HF := Lib.hid (HN3.out k e p (by have := HK0.out; omega) HE.out (by rw [← HJ.out]; exact HP.out) hl')
                clear hl
                rcases cmp_ge hl' with ⟨m1, m2⟩ | ⟨m1, m2⟩
                all_goals (
                  clear hl'
                  go_wp2_with fail
                  refine (HNM.out _).mono ?_
                  rintro e3 w3 ⟨rfl, rfl⟩
                  go_wp2_with fail
                  go_quiet (fail)
                  go_wp2
                  go_ret
                  exact ⟨ret_bool HF.out.symm, bdN HBA.out _⟩)
      · have hY := HY.out (by have := HGD.out; rw [List.take_of_length_le (by omega)] at this; exact this)
        have HY2 := Lib.hid hY
        clear hY
        go_wp2
        go_ret
        exact ⟨ret_bool HY2.out.symm, HB.out⟩
  · have h8' : (8 : Int) < (l.length : Int) := by omega
    have HF := Lib.hid (show toB (entsP l) = false from toB_false (fun h => h8 h.2.2))
    clear h8
    go_enter Try.func41, Try.ntmps41
    go_wp2
    go_ret
    exact ⟨ret_bool HF.out.symm, Below.refl _ _⟩
end Go.Proofs.Ytilepnepcamnaaa
namespace Go.Proofs.Ytilepnepcamnaaa
open Go Go.RowKit
set_option maxRecDepth 100000

/-- What is asked of a node's lists: they are short. -/
structure Few (n : Nd) : Prop where
  data : n.data.length ≤ 1000
  ents : n.ents.length ≤ 1000
  names : ∀ e ∈ n.ents, e.1.length ≤ 1000
  target : n.target.length ≤ 1000
theorem len0_iff (l : Nm) : (((bA l).toList == ([] : List UInt8)) = true) ↔ l = [] := by rw [bA_list]; simp
theorem eq_nil_of (l : Nm) (h : l = []) : ((bA l).toList == ([] : List UInt8)) = true := (len0_iff l).2 h
theorem ne_nil_of (l : Nm) (h : ¬ l = []) : ((bA l).toList == ([] : List UInt8)) = false := by
  cases hb : ((bA l).toList == ([] : List UInt8)) with
  | false => rfl
  | true => exact absurd ((len0_iff l).1 hb) h
theorem int0 {α : Type} {l : List α} (h : l = []) : ((l.length : Int) == 0) = true := by rw [h]; rfl
theorem int1 {α : Type} {l : List α} (h : ¬ l = []) : ((l.length : Int) == 0) = false := by
  rw [beq_eq_false_iff_ne]
  intro e
  exact h (List.eq_nil_of_length_eq_zero (by omega))
set_option maxRecDepth 100000 in
set_option maxHeartbeats 4000000 in
theorem right_any (n : Nd) (vd ve : Value) (w : World) (hd : BytesR w vd n.data) (he : EntsR w ve n.ents) (hf : Few n) :
    Calls Try.prog 32 #[nodeV n vd ve] w fun e w' => e = .returned (.bool (toB (rightP n))) ∧ Below w.heap.size w w' := by
  have HB1 := Lib.hid (ba w (.cells (ndC n vd ve) 39))
  have HER := Lib.hid (fun W (hb : Below (w.alloc (.cells (ndC n vd ve) 39)).heap.size (w.alloc (.cells (ndC n vd ve) 39)) W) => entsRight_any ve n.ents W ((box_ents (vd := vd) he).below hb) hf.ents hf.names)
  have HFT := Lib.hid (fun W => Fits_any (bA n.target) W (by rw [size_bA]; have := hf.target; unfold maxLen; omega))
  rw [fit_fok, tl_bA] at HFT
  have U1 := Lib.hid (fun W => upTo_any 4095 n.mode W)
  have U2 := Lib.hid (fun W => upTo_any 65535 n.uid W)
  have U3 := Lib.hid (fun W => upTo_any 65535 n.gid W)
  obtain ⟨A1, c1, rfl⟩ := bytes_form hd rfl
  obtain ⟨A2, c2, rfl⟩ := ents_form he rfl
  have hdl := hf.data
  have hel := hf.ents
  clear hd he hf
  unfold nodeV
  obtain ⟨u1, hu1⟩ : ∃ u, upB 4095 n.mode = u := ⟨_, rfl⟩
  obtain ⟨u2, hu2⟩ : ∃ u, upB 65535 n.uid = u := ⟨_, rfl⟩
  obtain ⟨u3, hu3⟩ : ∃ u, upB 65535 n.gid = u := ⟨_, rfl⟩
  rw [hu1] at U1
  rw [hu2] at U2
  rw [hu3] at U3
  cases u1 with
  | false =>
    have HX := Lib.hid (show toB (rightP n) = false from toB_false (fun h => upB_not hu1 h.1.1))
    clear hu1 hu2 hu3
    generalize toB (rightP n) = X at HX ⊢
    go_enter Try.func32, Try.ntmps32
    go_wp2_with fail
    refine (U1.out _).mono ?_
    rintro e w' ⟨rfl, rfl⟩
    go_wp2
    go_ret
    exact ⟨ret_bool (by first | exact HX.out.symm | exact (decide_eq_false (by omega)).trans HX.out.symm), HB1.out⟩
  | true =>
    cases u2 with
    | false =>
      have HX := Lib.hid (show toB (rightP n) = false from toB_false (fun h => upB_not hu2 h.1.2.1))
      clear hu1 hu2 hu3
      generalize toB (rightP n) = X at HX ⊢
      go_enter Try.func32, Try.ntmps32
      go_wp2_with fail
      refine (U1.out _).mono ?_
      rintro e w' ⟨rfl, rfl⟩
      go_wp2_with fail
      refine (U2.out _).mono ?_
      rintro e w' ⟨rfl, rfl⟩
      go_wp2
      go_ret
      exact ⟨ret_bool (by first | exact HX.out.symm | exact (decide_eq_false (by omega)).trans HX.out.symm), HB1.out⟩
    | true =>
      cases u3 with
      | false =>
        have HX := Lib.hid (show toB (rightP n) = false from toB_false (fun h => upB_not hu3 h.1.2.2))
        clear hu1 hu2 hu3
        generalize toB (rightP n) = X at HX ⊢
        go_enter Try.func32, Try.ntmps32
        go_wp2_with fail
        refine (U1.out _).mono ?_
        rintro e w' ⟨rfl, rfl⟩
        go_wp2_with fail
        refine (U2.out _).mono ?_
        rintro e w' ⟨rfl, rfl⟩
        go_wp2_with fail
        refine (U3.out _).mono ?_
        rintro e w' ⟨rfl, rfl⟩
        go_wp2
        go_ret
        exact ⟨ret_bool (by first | exact HX.out.symm | exact (decide_eq_false (by omega)).trans HX.out.symm), HB1.out⟩
      | true =>
        have hH : headP n := ⟨upB_iff.1 hu1, upB_iff.1 hu2, upB_iff.1 hu3⟩
        clear hu1 hu2 hu3
        by_cases k1 : n.kind = 1
        · have hk : (n.kind == 1) = true := by simpa using k1
          have hX : rightP n ↔ n.ents = [] ∧ n.target = [] ∧ n.data.length ≤ 48 := by
            constructor
            · rintro ⟨-, h | h | h⟩
              · exact h.2
              · omega
              · omega
            · exact fun h => ⟨hH, .inl ⟨k1, h⟩⟩
          clear hH k1
          by_cases e1 : n.ents = []
          · have q1 := int0 e1
            by_cases e2 : n.target = []
            · have q2 := eq_nil_of _ e2
              by_cases e3 : n.data.length ≤ 48
              · have q3 : (n.data.length : Int) ≤ 48 := by omega
                have HX := Lib.hid (show toB (rightP n) = true from toB_true (hX.2 ⟨e1, e2, e3⟩))
                clear hX e1 e2 e3
                generalize toB (rightP n) = X at HX ⊢
                go_enter Try.func32, Try.ntmps32
                go_wp2_with fail
                refine (U1.out _).mono ?_
                rintro e w' ⟨rfl, rfl⟩
                go_wp2_with fail
                refine (U2.out _).mono ?_
                rintro e w' ⟨rfl, rfl⟩
                go_wp2_with fail
                refine (U3.out _).mono ?_
                rintro e w' ⟨rfl, rfl⟩
                go_wp2
                go_ret
                exact ⟨ret_bool (by first | exact HX.out.symm | exact (decide_eq_false (by omega)).trans HX.out.symm), HB1.out⟩
              · have q3 : ¬ (n.data.length : Int) ≤ 48 := by omega
                have HX := Lib.hid (show toB (rightP n) = false from toB_false (fun h => e3 (hX.1 h).2.2))
                clear hX e1 e2 e3
                generalize toB (rightP n) = X at HX ⊢
                go_enter Try.func32, Try.ntmps32
                go_wp2_with fail
                refine (U1.out _).mono ?_
                rintro e w' ⟨rfl, rfl⟩
                go_wp2_with fail
                refine (U2.out _).mono ?_
                rintro e w' ⟨rfl, rfl⟩
                go_wp2_with fail
                refine (U3.out _).mono ?_
                rintro e w' ⟨rfl, rfl⟩
                go_wp2
                go_ret
                exact ⟨ret_bool (by first | exact HX.out.symm | exact (decide_eq_false (by omega)).trans HX.out.symm), HB1.out⟩
            · have q2 := ne_nil_of _ e2
              have HX := Lib.hid (show toB (rightP n) = false from toB_false (fun h => e2 (hX.1 h).2.1))
              clear hX e1 e2
              generalize toB (rightP n) = X at HX ⊢
              go_enter Try.func32, Try.ntmps32
              go_wp2_with fail
              refine (U1.out _).mono ?_
              rintro e w' ⟨rfl, rfl⟩
              go_wp2_with fail
              refine (U2.out _).mono ?_
              rintro e w' ⟨rfl, rfl⟩
              go_wp2_with fail
              refine (U3.out _).mono ?_
              rintro e w' ⟨rfl, rfl⟩
              go_wp2
              go_ret
              exact ⟨ret_bool (by first | exact HX.out.symm | exact (decide_eq_false (by omega)).trans HX.out.symm), HB1.out⟩
          · have q1 := int1 e1
            have HX := Lib.hid (show toB (rightP n) = false from toB_false (fun h => e1 (hX.1 h).1))
            clear hX e1
            generalize toB (rightP n) = X at HX ⊢
            go_enter Try.func32, Try.ntmps32
            go_wp2_with fail
            refine (U1.out _).mono ?_
            rintro e w' ⟨rfl, rfl⟩
            go_wp2_with fail
            refine (U2.out _).mono ?_
            rintro e w' ⟨rfl, rfl⟩
            go_wp2_with fail
            refine (U3.out _).mono ?_
            rintro e w' ⟨rfl, rfl⟩
            go_wp2
            go_ret
            exact ⟨ret_bool (by first | exact HX.out.symm | exact (decide_eq_false (by omega)).trans HX.out.symm), HB1.out⟩
        · have hk : (n.kind == 1) = false := by simpa using k1
          by_cases k2 : n.kind = 2
          · have hk2 : (n.kind == 2) = true := by simpa using k2
            have hX : rightP n ↔ n.data = [] ∧ n.target = [] ∧ entsP n.ents := by
              constructor
              · rintro ⟨-, h | h | h⟩
                · omega
                · exact h.2
                · omega
              · exact fun h => ⟨hH, .inr (.inl ⟨k2, h⟩)⟩
            clear hH k1 k2
            by_cases e1 : n.data = []
            · have q1 := int0 e1
              by_cases e2 : n.target = []
              · have q2 := eq_nil_of _ e2
                have HX := Lib.hid (show toB (rightP n) = toB (entsP n.ents) by
                  by_cases h : entsP n.ents
                  · rw [toB_true h, toB_true (hX.2 ⟨e1, e2, h⟩)]
                  · rw [toB_false h, toB_false (fun h2 => h (hX.1 h2).2.2)])
                clear hX e1 e2
                generalize toB (entsP n.ents) = Y at HX HER
                generalize toB (rightP n) = X at HX ⊢
                go_enter Try.func32, Try.ntmps32
                go_wp2_with fail
                refine (U1.out _).mono ?_
                rintro e w' ⟨rfl, rfl⟩
                go_wp2_with fail
                refine (U2.out _).mono ?_
                rintro e w' ⟨rfl, rfl⟩
                go_wp2_with fail
                refine (U3.out _).mono ?_
                rintro e w' ⟨rfl, rfl⟩
                go_wp2_with fail
                refine (HER.out _ (Below.refl _ _)).mono ?_
                rintro e w2 ⟨rfl, hb2⟩
                have HB2 := Lib.hid (bt hb2 HB1.out)
                clear hb2
                go_wp2
                go_ret
                exact ⟨ret_bool HX.out.symm, HB2.out⟩
              · have q2 := ne_nil_of _ e2
                have HX := Lib.hid (show toB (rightP n) = false from toB_false (fun h => e2 (hX.1 h).2.1))
                clear hX e1 e2
                generalize toB (rightP n) = X at HX ⊢
                go_enter Try.func32, Try.ntmps32
                go_wp2_with fail
                refine (U1.out _).mono ?_
                rintro e w' ⟨rfl, rfl⟩
                go_wp2_with fail
                refine (U2.out _).mono ?_
                rintro e w' ⟨rfl, rfl⟩
                go_wp2_with fail
                refine (U3.out _).mono ?_
                rintro e w' ⟨rfl, rfl⟩
                go_wp2
                go_ret
                exact ⟨ret_bool (by first | exact HX.out.symm | exact (decide_eq_false (by omega)).trans HX.out.symm), HB1.out⟩
            · have q1 := int1 e1
              have HX := Lib.hid (show toB (rightP n) = false from toB_false (fun h => e1 (hX.1 h).1))
              clear hX e1
              generalize toB (rightP n) = X at HX ⊢
              go_enter Try.func32, Try.ntmps32
              go_wp2_with fail
              refine (U1.out _).mono ?_
              rintro e w' ⟨rfl, rfl⟩
              go_wp2_with fail
              refine (U2.out _).mono ?_
              rintro e w' ⟨rfl, rfl⟩
              go_wp2_with fail
              refine (U3.out _).mono ?_
              rintro e w' ⟨rfl, rfl⟩
              go_wp2
              go_ret
              exact ⟨ret_bool (by first | exact HX.out.symm | exact (decide_eq_false (by omega)).trans HX.out.symm), HB1.out⟩
          · have hk2 : (n.kind == 2) = false := by simpa using k2
            by_cases k3 : n.kind = 3
            · have hk3 : (n.kind == 3) = true := by simpa using k3
              have hX : rightP n ↔ n.data = [] ∧ n.ents = [] ∧ n.mode = 511 ∧ fok n.target = true := by
                constructor
                · rintro ⟨-, h | h | h⟩
                  · omega
                  · omega
                  · exact h.2
                · exact fun h => ⟨hH, .inr (.inr ⟨k3, h⟩)⟩
              clear hH k1 k2 k3
              by_cases e1 : n.data = []
              · have q1 := int0 e1
                by_cases e2 : n.ents = []
                · have q2 := int0 e2
                  by_cases e3 : n.mode = 511
                  · have q3 : (n.mode == 511) = true := by simpa using e3
                    have HX := Lib.hid (show toB (rightP n) = fok n.target by
                      cases h : fok n.target with
                      | true => exact toB_true (hX.2 ⟨e1, e2, e3, h⟩)
                      | false => exact toB_false (fun h2 => by have := (hX.1 h2).2.2.2; rw [h] at this; cases this))
                    clear hX e1 e2 e3
                    generalize fok n.target = Y at HX HFT
                    generalize toB (rightP n) = X at HX ⊢
                    go_enter Try.func32, Try.ntmps32
                    go_wp2_with fail
                    refine (U1.out _).mono ?_
                    rintro e w' ⟨rfl, rfl⟩
                    go_wp2_with fail
                    refine (U2.out _).mono ?_
                    rintro e w' ⟨rfl, rfl⟩
                    go_wp2_with fail
                    refine (U3.out _).mono ?_
                    rintro e w' ⟨rfl, rfl⟩
                    go_wp2_with fail
                    refine (HFT.out _).mono ?_
                    rintro e w' ⟨rfl, rfl⟩
                    go_wp2
                    go_ret
                    exact ⟨ret_bool (by first | exact HX.out.symm | exact (decide_eq_false (by omega)).trans HX.out.symm), HB1.out⟩
                  · have q3 : (n.mode == 511) = false := by simpa using e3
                    have HX := Lib.hid (show toB (rightP n) = false from toB_false (fun h => e3 (hX.1 h).2.2.1))
                    clear hX e1 e2 e3
                    generalize toB (rightP n) = X at HX ⊢
                    go_enter Try.func32, Try.ntmps32
                    go_wp2_with fail
                    refine (U1.out _).mono ?_
                    rintro e w' ⟨rfl, rfl⟩
                    go_wp2_with fail
                    refine (U2.out _).mono ?_
                    rintro e w' ⟨rfl, rfl⟩
                    go_wp2_with fail
                    refine (U3.out _).mono ?_
                    rintro e w' ⟨rfl, rfl⟩
                    go_wp2
                    go_ret
                    exact ⟨ret_bool (by first | exact HX.out.symm | exact (decide_eq_false (by omega)).trans HX.out.symm), HB1.out⟩
                · have q2 := int1 e2
                  have HX := Lib.hid (show toB (rightP n) = false from toB_false (fun h => e2 (hX.1 h).2.1))
                  clear hX e1 e2
                  generalize toB (rightP n) = X at HX ⊢
                  go_enter Try.func32, Try.ntmps32
                  go_wp2_with fail
                  refine (U1.out _).mono ?_
                  rintro e w' ⟨rfl, rfl⟩
                  go_wp2_with fail
                  refine (U2.out _).mono ?_
                  rintro e w' ⟨rfl, rfl⟩
                  go_wp2_with fail
                  refine (U3.out _).mono ?_
                  rintro e w' ⟨rfl, rfl⟩
                  go_wp2
                  go_ret
                  exact ⟨ret_bool (by first | exact HX.out.symm | exact (decide_eq_false (by omega)).trans HX.out.symm), HB1.out⟩
              · have q1 := int1 e1
                have HX := Lib.hid (show toB (rightP n) = false from toB_false (fun h => e1 (hX.1 h).1))
                clear hX e1
                generalize toB (rightP n) = X at HX ⊢
                go_enter Try.func32, Try.ntmps32
                go_wp2_with fail
                refine (U1.out _).mono ?_
                rintro e w' ⟨rfl, rfl⟩
                go_wp2_with fail
                refine (U2.out _).mono ?_
                rintro e w' ⟨rfl, rfl⟩
                go_wp2_with fail
                refine (U3.out _).mono ?_
                rintro e w' ⟨rfl, rfl⟩
                go_wp2
                go_ret
                exact ⟨ret_bool (by first | exact HX.out.symm | exact (decide_eq_false (by omega)).trans HX.out.symm), HB1.out⟩
            · have hk3 : (n.kind == 3) = false := by simpa using k3
              have HX := Lib.hid (show toB (rightP n) = false from toB_false (fun h => by
                rcases h.2 with h | h | h
                · exact k1 h.1
                · exact k2 h.1
                · exact k3 h.1))
              clear hH k1 k2 k3
              generalize toB (rightP n) = X at HX ⊢
              go_enter Try.func32, Try.ntmps32
              go_wp2_with fail
              refine (U1.out _).mono ?_
              rintro e w' ⟨rfl, rfl⟩
              go_wp2_with fail
              refine (U2.out _).mono ?_
              rintro e w' ⟨rfl, rfl⟩
              go_wp2_with fail
              refine (U3.out _).mono ?_
              rintro e w' ⟨rfl, rfl⟩
              go_wp2
              go_ret
              exact ⟨ret_bool (by first | exact HX.out.symm | exact (decide_eq_false (by omega)).trans HX.out.symm), HB1.out⟩
end Go.Proofs.Ytilepnepcamnaaa
namespace Go.Proofs.Ytilepnepcamnaaa
open Go Go.RowKit
set_option maxRecDepth 100000

theorem eq_ent (a b : Int) (s t : ByteArray) (w : World) : (Op.equalIn 10000 70 (.agg #[.string s, .int .i64 a]) (.agg #[.string t, .int .i64 b])).run Try.prog w = .ok (s.toList == t.toList && a == b) w := by
  have hS : Try.prog.underlying 70 = some (.struct (Try.prog.fieldsOf 70)) := by kernel_rfl
  rw [show (10000 : Nat) = 9999 + 1 from rfl, run_equalIn_agg w 9999 70 _ _ hS (by kernel_rfl)]
  have u5 := Try.underlying3
  have u9 := Try.underlying9
  simp only [Program.fieldsOf, Try.underlying70]
  go_simp
  by_cases h1 : a = b <;> by_cases h2 : s.toList = t.toList <;> simp [h1, h2]
theorem take_eq_snoc {α : Type} {a b : List α} {k : Nat} {x : α} (h : a.take k = b.take k) (ha : a[k]? = some x) (hb : b[k]? = some x) : a.take (k + 1) = b.take (k + 1) := by rw [take_snoc' ha, take_snoc' hb, h]
attribute [local go_sem] eq_ent
end Go.Proofs.Ytilepnepcamnaaa
namespace Go.Proofs.Ytilepnepcamnaaa
open Go Go.RowKit
set_option maxRecDepth 100000

theorem nd_eq {a b : Nd} (h1 : a.kind = b.kind) (h2 : a.mode = b.mode) (h3 : a.uid = b.uid) (h4 : a.gid = b.gid) (h5 : a.target = b.target) (h6 : a.data = b.data) (h7 : a.ents = b.ents) : a = b := by
  cases a
  cases b
  simp only at h1 h2 h3 h4 h5 h6 h7
  subst h1 h2 h3 h4 h5 h6 h7
  rfl
end Go.Proofs.Ytilepnepcamnaaa
namespace Go.Proofs.Ytilepnepcamnaaa
open Go Go.RowKit
set_option maxRecDepth 100000

/-- Is a node small? -/
def fewP (n : Nd) : Prop := (∀ e ∈ n.ents, e.1.length ≤ 40) ∧ n.ents.length ≤ 20 ∧ n.data.length ≤ 100 ∧ n.target.length ≤ 100
theorem fewP.few {n : Nd} (h : fewP n) : Few n :=
  ⟨by have := h.2.2.1; omega, by have := h.2.1; omega, fun e he => by have := h.1 e he; omega, by have := h.2.2.2; omega⟩
set_option maxRecDepth 100000 in
set_option maxHeartbeats 4000000 in
theorem few_any (n : Nd) (vd ve : Value) (w : World) (hd : BytesR w vd n.data) (he : EntsR w ve n.ents) (hl : n.ents.length ≤ maxLen) :
    Calls Try.prog 28 #[nodeV n vd ve] w fun e w' => e = .returned (.bool (toB (fewP n))) ∧ Below w.heap.size w w' := by
  have hl' : n.ents.length ≤ 9223372036854775807 := by unfold maxLen at hl; omega
  have HB1 := Lib.hid (ba w (.cells (ndC n vd ve) 39))
  have HE := Lib.hid (box_ents (vd := vd) he)
  obtain ⟨A1, c1, rfl⟩ := bytes_form hd rfl
  obtain ⟨A2, c2, rfl⟩ := ents_form he rfl
  have HN := Lib.hid (fun (k : Nat) (e : En) (hk : n.ents[k]? = some e) (h : ¬ e.1.length ≤ 40) => show toB (fewP n) = false from toB_false (fun hp => h (hp.1 e (List.mem_of_getElem? hk))))
  have HY := Lib.hid (fun (h : ∀ e ∈ n.ents, e.1.length ≤ 40) => show toB (fewP n) = (decide (n.ents.length ≤ 20) && (decide (n.data.length ≤ 100) && decide (n.target.length ≤ 100))) by
    by_cases h1 : n.ents.length ≤ 20
    · by_cases h2 : n.data.length ≤ 100
      · by_cases h3 : n.target.length ≤ 100
        · rw [toB_true ⟨h, h1, h2, h3⟩, decide_eq_true h1, decide_eq_true h2, decide_eq_true h3]; rfl
        · rw [toB_false (fun hp => h3 hp.2.2.2), decide_eq_false h3, Bool.and_false, Bool.and_false]
      · rw [toB_false (fun hp => h2 hp.2.2.1), decide_eq_false h2, Bool.false_and, Bool.and_false]
    · rw [toB_false (fun hp => h1 hp.2.1), decide_eq_false h1, Bool.false_and])
  have hsz := size_bA n.target
  clear hd he hl
  generalize toB (fewP n) = X at HN HY ⊢
  unfold nodeV
  go_enter Try.func28, Try.ntmps28
  go_wp2
  go_loopg [3] n.ents.length (fun g s3 wr => ∃ k : Nat, s3 = .int .i64 k ∧ k ≤ n.ents.length ∧ g = n.ents.length - k ∧ (∀ e ∈ n.ents.take k, e.1.length ≤ 40) ∧ w.alloc (.cells (ndC n (.slice A1 n.data.length c1) (.slice A2 n.ents.length c2)) 39) = wr)
  case atStart => exact ⟨0, rfl, Nat.zero_le _, rfl, fun e h => by simp at h, rfl⟩
  case round =>
    obtain ⟨k, rfl, hk, rfl, hgo, rfl⟩ := hrel
    have HG := Lib.hid hgo
    clear hgo
    by_cases hlt : k < n.ents.length
    · obtain ⟨e, he⟩ : ∃ e, n.ents[k]? = some e := ⟨_, List.getElem?_eq_getElem hlt⟩
      obtain ⟨ad, rfl, c0, c1⟩ := ents_get HE.out he
      have HK := Lib.hid he
      have hse := size_bA e.1
      clear he
      have hlt' : (k : Int) < (n.ents.length : Int) := by omega
      by_cases h4 : e.1.length ≤ 40
      · have q4 : ¬ (40 : Int) < ((bA e.1).size : Int) := by rw [hse]; omega
        have H4 := Lib.hid h4
        clear h4 hse
        go_wp2
        go_roundg (n.ents.length - (k + 1))
        case measure => omega
        case rel => exact ⟨k + 1, by go_num, by omega, rfl, (by
          intro f hf
          rw [take_snoc' HK.out] at hf
          rcases List.mem_append.1 hf with hf | hf
          · exact HG.out f hf
          · rw [List.mem_singleton] at hf
            rw [hf]
            exact H4.out), rfl⟩
      · have q4 : (40 : Int) < ((bA e.1).size : Int) := by rw [hse]; omega
        have HF := Lib.hid (HN.out k e HK.out h4)
        clear h4 hse
        go_wp2
        go_ret
        exact ⟨ret_bool HF.out.symm, HB1.out⟩
    · have hlt' : ¬ (k : Int) < (n.ents.length : Int) := by omega
      have HF := Lib.hid (HY.out (by have := HG.out; rw [List.take_of_length_le (by omega)] at this; exact this))
      by_cases h1 : n.ents.length ≤ 20
      · have q1 : (n.ents.length : Int) ≤ 20 := by omega
        by_cases h2 : n.data.length ≤ 100
        · have q2 : (n.data.length : Int) ≤ 100 := by omega
          have HF2 := Lib.hid (show X = decide (((bA n.target).size : Int) ≤ 100) by
            rw [HF.out, decide_eq_true h1, decide_eq_true h2, Bool.true_and, Bool.true_and, hsz]
            congr 1
            apply propext
            constructor <;> intro h <;> omega)
          clear h1 h2
          go_wp2
          go_ret
          exact ⟨ret_bool HF2.out.symm, HB1.out⟩
        · have q2 : ¬ (n.data.length : Int) ≤ 100 := by omega
          have HF2 := Lib.hid (show X = false by rw [HF.out, decide_eq_false h2, Bool.false_and, Bool.and_false])
          clear h1 h2
          go_wp2
          go_ret
          exact ⟨ret_bool HF2.out.symm, HB1.out⟩
      · have q1 : ¬ (n.ents.length : Int) ≤ 20 := by omega
        have HF2 := Lib.hid (show X = false by rw [HF.out, decide_eq_false h1, Bool.false_and])
        clear h1
        go_wp2
        go_ret
        exact ⟨ret_bool HF2.out.symm, HB1.out⟩
end Go.Proofs.Ytilepnepcamnaaa
namespace Go.Proofs.Ytilepnepcamnaaa
open Go Go.RowKit
set_option maxRecDepth 100000

attribute [local go_sem] cell_off4 cell_blk4
theorem any_drop {α : Type} {f : α → Bool} {l : List α} {k : Nat} {a : α} (h : l[k]? = some a) : (l.drop k).any f = (f a || (l.drop (k + 1)).any f) := by
  obtain ⟨h1, h2⟩ := List.getElem?_eq_some_iff.1 h
  rw [List.drop_eq_getElem_cons h1, List.any_cons, h2]
def inL (l : List Int) (n : Int) : Bool := l.any (fun x => x == n)
set_option maxRecDepth 100000 in
set_option maxHeartbeats 4000000 in
theorem sindex_any (v : Value) (l : List Int) (n : Int) (w : World) (h : IntsR w v l) (hl : l.length ≤ 1000) :
    Calls Try.prog 51 #[v, .int .i64 n] w fun e w' => (∃ r : Int, e = .returned (.int .i64 r) ∧ decide (0 ≤ r) = inL l n) ∧ w = w' := by
  obtain ⟨X, hX⟩ : ∃ X, inL l n = X := ⟨_, rfl⟩
  rw [hX]
  have HX0 := Lib.hid (show (l.drop 0).any (fun x => x == n) = X from hX)
  obtain ⟨A, c, rfl⟩ := ints_form h rfl
  have HE := Lib.hid h
  clear h hX
  go_enter Try.func51, Try.ntmps51
  go_wp2
  go_loopg [8] l.length (fun gh s8 wr => ∃ k : Nat, s8 = .int .i64 k ∧ k ≤ l.length ∧ gh = l.length - k ∧ (l.drop k).any (fun x => x == n) = X ∧ w = wr)
  case atStart => exact ⟨0, rfl, Nat.zero_le _, rfl, HX0.out, rfl⟩
  case round =>
    clear HX0
    obtain ⟨k, rfl, hk, rfl, hx, rfl⟩ := hrel
    by_cases hlt : k < l.length
    · have hlt' : (k : Int) < (l.length : Int) := by omega
      obtain ⟨a, hka⟩ : ∃ a, l[k]? = some a := ⟨_, List.getElem?_eq_getElem hlt⟩
      obtain ⟨ad, hA, d0⟩ := ints_get HE.out hka
      subst hA
      rw [any_drop hka] at hx
      clear hka
      cases q : (a == n)
      · have q2 : (n == a) = false := by
          rw [Bool.eq_false_iff] at q ⊢
          simp only [ne_eq, beq_iff_eq] at q ⊢
          exact fun h => q h.symm
        rw [q, Bool.false_or] at hx
        have HX := Lib.hid hx
        clear hx q
        go_wp2
        go_roundg (l.length - (k + 1))
        case measure => omega
        case rel => exact ⟨k + 1, by go_num, by omega, rfl, HX.out, rfl⟩
      · have q2 : (n == a) = true := by
          simp only [beq_iff_eq] at q ⊢
          exact q.symm
        rw [q] at hx
        have HX := Lib.hid (show decide (0 ≤ (k : Int)) = X by rw [decide_eq_true (by omega)]; exact hx)
        clear hx q
        go_wp2
        go_ret
        exact ⟨⟨_, rfl, HX.out⟩, rfl⟩
    · have hlt' : ¬ (k : Int) < (l.length : Int) := by omega
      rw [List.drop_eq_nil_of_le (by omega)] at hx
      have HX := Lib.hid (show decide (0 ≤ (-1 : Int)) = X from hx)
      clear hx
      go_wp2
      go_ret
      exact ⟨⟨_, rfl, HX.out⟩, rfl⟩
set_option maxRecDepth 100000 in
set_option maxHeartbeats 4000000 in
theorem scontains_any (v : Value) (l : List Int) (n : Int) (w : World) (h : IntsR w v l) (hl : l.length ≤ 1000) :
    Calls Try.prog 45 #[v, .int .i64 n] w fun e w' => e = .returned (.bool (inL l n)) ∧ w = w' := by
  have HI := Lib.hid (sindex_any v l n w h hl)
  obtain ⟨A, c, rfl⟩ := ints_form h rfl
  clear h hl
  go_enter Try.func45, Try.ntmps45
  go_wp2_with fail
  refine HI.out.mono ?_
  rintro e w4 ⟨⟨r, rfl, hr⟩, rfl⟩
  have HR := Lib.hid hr
  clear hr
  go_wp2
  go_ret
  exact ⟨ret_bool HR.out, rfl⟩
end Go.Proofs.Ytilepnepcamnaaa
namespace Go.Proofs.Ytilepnepcamnaaa
open Go Go.RowKit
set_option maxRecDepth 100000

theorem bAat {a : Nm} {k : Nat} (h : k < (bA a).size) : a[k]? = some (bA a)[k] := by
  have := tl_at h
  rw [tl_bA] at this
  exact this
theorem ref_bdN {W w : World} (h : Below W.heap.size W w) (n : Nat) : Below W.heap.size W (w.drewN n) := ⟨h.os, h.tape, h.output, h.size, h.block⟩
theorem ref_take_snoc {α : Type} {a b : List α} {k : Nat} {x : α} (h : a.take k = b.take k) (ha : a[k]? = some x) (hb : b[k]? = some x) : a.take (k + 1) = b.take (k + 1) := by rw [take_snoc' ha, take_snoc' hb, h]
set_option maxRecDepth 100000 in
set_option maxHeartbeats 4000000 in
theorem ref_less (a b : Nm) (w : World) (ha : a.length ≤ 1000) (hb : b.length ≤ 1000) :
    Calls Try.prog 47 #[.string (bA a), .string (bA b)] w fun e w' => e = .returned (.bool (lss a b)) ∧ Below w.heap.size w w' := by
  have hsa := size_bA a
  have hsb := size_bA b
  have HD := Lib.hid (fun (k : Nat) (x y : UInt8) (ht : a.take k = b.take k) (hx : a[k]? = some x) (hy : b[k]? = some y) (hne : ¬ x = y) => lss_at ht hx hy hne)
  have HL := Lib.hid (fun (k : Nat) (ht : a.take k = b.take k) (h1 : k ≤ a.length) (h2 : k ≤ b.length) (he : k = a.length ∨ k = b.length) => lss_len ht h1 h2 he)
  generalize lss a b = X at HD HL ⊢
  have HSA := Lib.hid hsa
  have HSB := Lib.hid hsb
  obtain ⟨sa, hsa2⟩ : ∃ s, bA a = s := ⟨_, rfl⟩
  obtain ⟨sb, hsb2⟩ : ∃ s, bA b = s := ⟨_, rfl⟩
  have HAA := Lib.hid (fun (k : Nat) (h : k < sa.size) => show a[k]? = some sa[k] by subst hsa2; exact bAat h)
  have HBB := Lib.hid (fun (k : Nat) (h : k < sb.size) => show b[k]? = some sb[k] by subst hsb2; exact bAat h)
  rw [hsa2] at hsa ⊢
  rw [hsb2] at hsb ⊢
  have hza : sa.size ≤ 1000 := by omega
  have hzb : sb.size ≤ 1000 := by omega
  have HZA := Lib.hid hsa
  have HZB := Lib.hid hsb
  clear hsa hsb hsa2 hsb2 HSA HSB ha hb
  go_enter Try.func47, Try.ntmps47
  go_wp2
  go_loopg [5] sa.size (fun g s5 wr => ∃ k : Nat, s5 = .int .i64 k ∧ k ≤ sa.size ∧ k ≤ sb.size ∧ g = sa.size - k ∧ a.take k = b.take k ∧ Below w.heap.size w wr)
  case atStart => exact ⟨0, rfl, Nat.zero_le _, Nat.zero_le _, rfl, rfl, Below.refl _ _⟩
  case round =>
    obtain ⟨k, rfl, h1, h2, rfl, htk, hbr⟩ := hrel
    have HT := Lib.hid htk
    have HB := Lib.hid hbr
    clear htk hbr
    by_cases ka : k < sa.size
    · have ka' : (k : Int) < (sa.size : Int) := by omega
      by_cases kb : k < sb.size
      · have kb' : (k : Int) < (sb.size : Int) := by omega
        obtain ⟨x, hx⟩ : ∃ x, sa[k] = x := ⟨_, rfl⟩
        obtain ⟨y, hy⟩ : ∃ y, sb[k] = y := ⟨_, rfl⟩
        have HXA := Lib.hid (show a[k]? = some x by rw [HAA.out k ka, hx])
        have HYB := Lib.hid (show b[k]? = some y by rw [HBB.out k kb, hy])
        by_cases hxy : x = y
        · subst hxy
          have q1 : ((x.toNat : Int) != (x.toNat : Int)) = false := by simp
          go_wp2
          go_quiet (fail)
          go_wp2
          go_roundg (sa.size - (k + 1))
          case measure => omega
          case rel => exact ⟨k + 1, by go_num, by omega, by omega, rfl, ref_take_snoc HT.out HXA.out HYB.out, ref_bdN HB.out _⟩
        · have q1 : ((x.toNat : Int) != (y.toNat : Int)) = true := by simp only [bne_iff_ne, ne_eq]; intro e; exact hxy (co_inj e)
          have HF := Lib.hid (show decide (x.toNat < y.toNat) = X from (HD.out k x y HT.out HXA.out HYB.out hxy).symm)
          clear hxy
          go_wp2
          go_quiet (fail)
          go_wp2
          go_quiet (fail)
          go_wp2
          go_ret
          exact ⟨ret_bool HF.out, ref_bdN (ref_bdN HB.out _) _⟩
      · have kb' : ¬ (k : Int) < (sb.size : Int) := by omega
        have HF := Lib.hid (show decide (sa.size < sb.size) = X by
          rw [HL.out k HT.out (by have := HZA.out; omega) (by have := HZB.out; omega) (.inr (by have := HZB.out; omega))]
          congr 1
          apply propext
          have := HZA.out
          have := HZB.out
          constructor <;> intro h <;> omega)
        go_wp2
        go_ret
        exact ⟨ret_bool HF.out, HB.out⟩
    · have ka' : ¬ (k : Int) < (sa.size : Int) := by omega
      have HF := Lib.hid (show decide (sa.size < sb.size) = X by
        rw [HL.out k HT.out (by have := HZA.out; omega) (by have := HZB.out; omega) (.inl (by have := HZA.out; omega))]
        congr 1
        apply propext
        have := HZA.out
        have := HZB.out
        constructor <;> intro h <;> omega)
      go_wp2
      go_ret
      exact ⟨ret_bool HF.out, HB.out⟩
/-- The reference's node in a block of its own. -/
abbrev rfC (n : Nd) (vn vk : Value) : Array Value := #[.int .i64 n.kind, .int .i64 n.mode, .int .i64 n.uid, .int .i64 n.gid, .string (bA n.data), vn, vk, .string (bA n.target)]
abbrev rfZ : Array Value := #[.int .i64 0, .int .i64 0, .int .i64 0, .int .i64 0, .string ⟨#[]⟩, .slice none 0 0, .slice none 0 0, .string ⟨#[]⟩]
theorem nm_len (l : List En) : (nmA (nmE l)).length = l.length := by rw [nmA_len, len_nmE]
end Go.Proofs.Ytilepnepcamnaaa
namespace Go.Proofs.Ytilepnepcamnaaa
open Go Go.RowKit
set_option maxRecDepth 100000

theorem own_apart {w : World} {B B' : Nat} {e1 e2 : TypeId} {s1 s2 n1 n2 : Nat} {v1 v2 : Value} {x1 x2 : List Value} (h1 : w.ownsRow B e1 s1 v1 n1 x1) (h2 : w.ownsRow B' e2 s2 v2 n2 x2) (hne : e1 ≠ e2) : v2.ownBlock = none ∨ v2.ownBlock ≠ v1.ownBlock := by
  rcases h2.2 with ⟨rfl, -⟩ | ⟨g2, c2, u2, rfl, -, k2, -⟩
  · exact .inl rfl
  · refine .inr ?_
    rcases h1.2 with ⟨rfl, -⟩ | ⟨g1, c1, u1, rfl, -, k1, -⟩
    · simp [Value.ownBlock]
    · intro e
      have : g2 = g1 := by simpa [Value.ownBlock] using e
      subst this
      rw [k1] at k2
      injection k2 with k2
      injection k2 with _ k2
      exact hne k2
/-- Two rows that grow side by side. -/
structure RX (w0 W : World) (vn vk : Value) (ln : List ByteArray) (lk : List Int) : Prop where
  below : Below w0.heap.size w0 W
  nm : W.ownsRow w0.heap.size 9 1 vn ln.length (sCells ln)
  kd : W.ownsRow w0.heap.size 3 1 vk lk.length (iCells lk)
section
variable {w0 W W' : World} {vn vk v' : Value} {ln : List ByteArray} {lk : List Int}
theorem RX.later (h : RX w0 W vn vk ln lk) (hb : Below W.heap.size W W') : RX w0 W' vn vk ln lk := ⟨bt hb h.below, own_below h.nm hb, own_below h.kd hb⟩
theorem RX.nil (w : World) : RX w w (.slice none 0 0) (.slice none 0 0) [] [] := ⟨Below.refl _ _, World.ownsRow_nil _ _ _ _, World.ownsRow_nil _ _ _ _⟩
theorem RX.nmApp (h : RX w0 W vn vk ln lk) {s : ByteArray} (ho : W'.ownsRow w0.heap.size 9 1 v' (ln.length + 1) (sCells ln ++ [.string s])) (hg : W.grownBy W' vn.ownBlock) : ∃ A c, v' = .slice A (ln.length + 1) c ∧ RX w0 W' (.slice A (ln.length + 1) c) vk (ln ++ [s]) lk := by
  obtain ⟨A, c, rfl⟩ := own_slice ho
  rw [sCells_snoc] at ho
  exact ⟨A, c, rfl, h.below.grown hg h.below.size (fun q hq => (h.nm.lt q hq).1), by rw [List.length_append]; exact ho, h.kd.kept hg (own_apart h.nm h.kd (by decide))⟩
theorem RX.kdApp (h : RX w0 W vn vk ln lk) {i : Int} (ho : W'.ownsRow w0.heap.size 3 1 v' (lk.length + 1) (iCells lk ++ [.int .i64 i])) (hg : W.grownBy W' vk.ownBlock) : ∃ A c, v' = .slice A (lk.length + 1) c ∧ RX w0 W' vn (.slice A (lk.length + 1) c) ln (lk ++ [i]) := by
  obtain ⟨A, c, rfl⟩ := own_slice ho
  rw [iCells_snoc] at ho
  exact ⟨A, c, rfl, h.below.grown hg h.below.size (fun q hq => (h.kd.lt q hq).1), h.nm.kept hg (own_apart h.kd h.nm (by decide)), by rw [List.length_append]; exact ho⟩
theorem RX.strs (h : RX w0 W vn vk ln lk) : StrsR W vn ln := StrsR.of_own h.nm
theorem RX.ints (h : RX w0 W vn vk ln lk) : IntsR W vk lk := IntsR.of_own h.kd
/-- A change of a block below. -/
theorem RX.low (h : RX w0 W vn vk ln lk) {g : Nat} {t : TypeId} {cs : Array Value} (hk : Blk W g t cs) (h1 : t ≠ 9) (h2 : t ≠ 3) (hg : W.grownBy W' (some g)) : StrsR W' vn ln ∧ IntsR W' vk lk :=
  ⟨StrsR.of_own (h.nm.kept hg (.inr (own_blk_ne h.nm hk (fun e => h1 e.symm)))), IntsR.of_own (h.kd.kept hg (.inr (own_blk_ne h.kd hk (fun e => h2 e.symm))))⟩
end
theorem int_one (i : Int) : ∀ u ∈ [Value.int .i64 i], u.oneCell' = true := by
  intro u hu
  rw [List.mem_singleton] at hu
  subst hu
  rfl
theorem zero_nr (w : World) : NrR w (.agg rfZ) Nd.zero := ⟨_, _, rfl, StrsR.nil w, IntsR.nil w⟩
theorem rbad_end {w0 w2 w3 : World} {r : Nat} (hb : Below w0.heap.size w0 w2) (hg : w2.grownBy w3 (some r)) (h1 : w0.heap.size ≤ r) (X : Int) :
    ∃ v, Ending.returned (.tuple #[.agg rfZ, .int .i64 X]) = .returned (.tuple #[v, .int .i64 X]) ∧ NrR w3 v Nd.zero ∧ Below w0.heap.size w0 w3 :=
  ⟨_, rfl, zero_nr _, below_grown hb hg h1⟩
theorem rgood_end {w0 wB w6 w8 : World} {g r : Nat} {n : Nd} {vn vk : Value} {ln : List ByteArray} {lk : List Int} {l : List En} {cs : Array Value} (hx : RX wB w6 vn vk ln lk) (hn : ln = nmA (nmE l)) (hk : lk = idE l) (hkb : Blk w6 g 34 cs) (hkr : Blk w6 r 34 rfZ) (hgr : g ≠ r) (hb : Below w0.heap.size w0 w6) (h0 : w0.heap.size ≤ g) (h1 : w0.heap.size ≤ r)
    (w7 : World) (hg7 : w6.grownBy w7 (some g)) (hg8 : w7.grownBy w8 (some r)) (X : Int) :
    ∃ v, Ending.returned (.tuple #[refV n vn vk, .int .i64 X]) = .returned (.tuple #[v, .int .i64 X]) ∧ NrR w8 v { n with ents := l } ∧ Below w0.heap.size w0 w8 := by
  subst hn hk
  have hkr7 := hkr.kept hg7 (fun e => hgr (by injection e with e; exact e.symm))
  have n7 := hx.nm.kept hg7 (.inr (own_blk_ne hx.nm hkb (by decide)))
  have k7 := hx.kd.kept hg7 (.inr (own_blk_ne hx.kd hkb (by decide)))
  exact ⟨_, rfl, ⟨vn, vk, rfl, StrsR.of_own (n7.kept hg8 (.inr (own_blk_ne n7 hkr7 (by decide)))), IntsR.of_own (k7.kept hg8 (.inr (own_blk_ne k7 hkr7 (by decide))))⟩, below_grown (below_grown hb hg7 h0) hg8 h1⟩
theorem nmA_app (a b : List En) : nmA (nmE (a ++ b)) = nmA (nmE a) ++ nmA (nmE b) := by simp [nmA, nmE]
theorem idE_app (a b : List En) : idE (a ++ b) = idE a ++ idE b := by simp [idE]
end Go.Proofs.Ytilepnepcamnaaa
namespace Go.Proofs.Ytilepnepcamnaaa
open Go Go.RowKit
set_option maxRecDepth 100000

/-- The model's node, as it is built. -/
structure MS (wB wr : World) (n : Nd) (vn vk : Value) (ln : List ByteArray) (lk : List Int) : Prop where
  rows : RX wB wr vn vk ln lk
  box : Blk wr wB.heap.size 34 (rfC n vn vk)
section
variable {wB wr w1 : World} {n : Nd} {vn vk v' : Value} {ln : List ByteArray} {lk : List Int} {o : Obj}
theorem MS.mid (h : MS wB wr n vn vk ln lk) (o : Obj) : RX wB (wr.alloc o).drew vn vk ln lk := (h.rows.later (ba wr o)).later (Below.refl _ _).drew
theorem MS.boxN (h : MS wB wr n vn vk ln lk) (hg : (wr.alloc o).drew.grownBy w1 vn.ownBlock) : Blk w1 wB.heap.size 34 (rfC n vn vk) :=
  Blk.kept (w := (wr.alloc o).drew) (h.box.alloc o) hg (own_blk_ne h.rows.nm h.box (by decide)).symm
theorem MS.boxK (h : MS wB wr n vn vk ln lk) (hg : (wr.alloc o).drew.grownBy w1 vk.ownBlock) : Blk w1 wB.heap.size 34 (rfC n vn vk) :=
  Blk.kept (w := (wr.alloc o).drew) (h.box.alloc o) hg (own_blk_ne h.rows.kd h.box (by decide)).symm
theorem MS.storedN (h : MS wB wr n vn vk ln lk) (hg : (wr.alloc o).drew.grownBy w1 vn.ownBlock) {s : ByteArray} (ho : w1.ownsRow wB.heap.size 9 1 v' (ln.length + 1) (sCells ln ++ [.string s])) : MS wB (w1.setCell ⟨wB.heap.size, 5, none⟩ v') n v' vk (ln ++ [s]) lk := by
  obtain ⟨A, c, rfl, hx⟩ := (h.mid o).nmApp ho hg
  have hk := h.boxN hg
  have hG := grown_setCell w1 ⟨wB.heap.size, 5, none⟩ (.slice A (ln.length + 1) c)
  exact ⟨⟨hx.below.grown hG hx.below.size (fun q hq => by injection hq with hq; have h0 : wB.heap.size = q := hq; omega), hx.nm.kept hG (.inr (own_blk_ne hx.nm hk (by decide))), hx.kd.kept hG (.inr (own_blk_ne hx.kd hk (by decide)))⟩, hk.set8_5 _⟩
theorem MS.storedK (h : MS wB wr n vn vk ln lk) (hg : (wr.alloc o).drew.grownBy w1 vk.ownBlock) {i : Int} (ho : w1.ownsRow wB.heap.size 3 1 v' (lk.length + 1) (iCells lk ++ [.int .i64 i])) : MS wB (w1.setCell ⟨wB.heap.size, 6, none⟩ v') n vn v' ln (lk ++ [i]) := by
  obtain ⟨A, c, rfl, hx⟩ := (h.mid o).kdApp ho hg
  have hk := h.boxK hg
  have hG := grown_setCell w1 ⟨wB.heap.size, 6, none⟩ (.slice A (lk.length + 1) c)
  exact ⟨⟨hx.below.grown hG hx.below.size (fun q hq => by injection hq with hq; have h0 : wB.heap.size = q := hq; omega), hx.nm.kept hG (.inr (own_blk_ne hx.nm hk (by decide))), hx.kd.kept hG (.inr (own_blk_ne hx.kd hk (by decide)))⟩, hk.set8_6 _⟩
end
theorem bytes_back {w : World} {A : Option Addr} {c : Nat} {l : List UInt8} (h : BytesR w (.slice A l.length c) l) : (convert 36 9 (.slice A l.length c)).run Try.prog w = .ok (.string (bA l)) w := by
  cases A with
  | none =>
    have hl : l = [] := by
      cases l with
      | nil => rfl
      | cons b r =>
        obtain ⟨ad, hA, -⟩ := bytes_get h (show (b :: r)[0]? = some b from rfl)
        cases hA
    subst hl
    rw [run_convert_bytes_string w 36 9 5 none _ c Try.underlying36 Try.underlying5 Try.underlying9]
    rfl
  | some ad =>
    refine run_convert_bytes_back w 36 9 5 ad c l Try.underlying36 Try.underlying5 Try.underlying9 (fun j hj => ?_)
    obtain ⟨ad', hA, h0⟩ := bytes_get h (List.getElem?_eq_getElem hj)
    injection hA with hA
    subst hA
    exact h0
attribute [local go_sem] cell_off4 cell_blk4
theorem model_end {w wB wr w8 : World} {n : Nd} {vn vk : Value} {r : Nat} (hS : MS wB wr n vn vk (nmA (nmE n.ents)) (idE n.ents)) (hkr : Blk wr r 34 rfZ) (hb : Below w.heap.size w wr) (hr : w.heap.size ≤ r) (hg : wr.grownBy w8 (some r)) :
    ∃ v, Ending.returned (refV n vn vk) = .returned v ∧ NrR w8 v n ∧ Below w.heap.size w w8 :=
  ⟨_, rfl, ⟨vn, vk, rfl, StrsR.of_own (hS.rows.nm.kept hg (.inr (own_blk_ne hS.rows.nm hkr (by decide)))), IntsR.of_own (hS.rows.kd.kept hg (.inr (own_blk_ne hS.rows.kd hkr (by decide))))⟩, below_grown hb hg hr⟩
set_option maxRecDepth 100000 in
set_option maxHeartbeats 8000000 in
theorem model_any (n : Nd) (vd ve : Value) (w : World) (hd : BytesR w vd n.data) (he : EntsR w ve n.ents) (hn : n.ents.length ≤ 1000) :
    Calls Try.prog 8 #[nodeV n vd ve] w fun e w' => ∃ v, e = .returned v ∧ NrR w' v n ∧ Below w.heap.size w w' := by
  obtain ⟨A1, c1, rfl⟩ := bytes_form hd rfl
  obtain ⟨A2, c2, rfl⟩ := ents_form he rfl
  obtain ⟨wB, hwB⟩ : ∃ wB, wB = (w.alloc (.cells (ndC n (.slice A1 n.data.length c1) (.slice A2 n.ents.length c2)) 39)).alloc (.cells rfZ 34) := ⟨_, rfl⟩
  have hbB : Below w.heap.size w wB := by rw [hwB]; exact al (ba _ _) _
  have hzB : wB.heap.size = w.heap.size + 2 := by rw [hwB]; simp
  have hkb : Blk wB w.heap.size 39 (ndC n (.slice A1 n.data.length c1) (.slice A2 n.ents.length c2)) := by rw [hwB]; exact (Blk.new _ _ _).alloc _
  have hkr : Blk wB (w.heap.size + 1) 34 rfZ := by rw [hwB]; have := Blk.new (w.alloc (.cells (ndC n (.slice A1 n.data.length c1) (.slice A2 n.ents.length c2)) 39)) 34 rfZ; simpa using this
  have hcv := bytes_back (hd.below hbB)
  have hcv' : ∀ W, W = wB → (convert 36 9 (.slice A1 n.data.length c1)).run Try.prog W = .ok (.string (bA n.data)) W := fun W h => by rw [h]; exact hcv
  have hcv2 := hcv' _ hwB.symm
  have HE := Lib.hid (he.below hbB)
  have HBB := Lib.hid hbB
  have HZB := Lib.hid hzB
  have HKB := Lib.hid hkb
  have HKR := Lib.hid hkr
  have HMS := Lib.hid (show MS wB (wB.alloc (.cells (rfC n (.slice none 0 0) (.slice none 0 0)) 34)) n (.slice none 0 0) (.slice none 0 0) [] [] from
    ⟨⟨ba _ _, World.ownsRow_nil _ _ _ _, World.ownsRow_nil _ _ _ _⟩, Blk.new _ _ _⟩)
  have HWB := Lib.hid hwB
  clear hd he hbB hzB hkb hkr hcv hcv' hwB
  unfold nodeV
  go_enter Try.func8, Try.ntmps8
  go_wp2
  rw [← HWB.out, show w.heap.size + 1 + 1 = wB.heap.size from HZB.out.symm]
  go_loopg [4] n.ents.length (fun g s4 wr => ∃ (k : Nat) (An : Option Addr) (cn : Nat) (Ak : Option Addr) (ck : Nat), s4 = .int .i64 k ∧ k ≤ n.ents.length ∧ g = n.ents.length - k ∧ MS wB wr n (.slice An k cn) (.slice Ak k ck) (nmA (nmE (n.ents.take k))) (idE (n.ents.take k)))
  case atStart => exact ⟨0, none, 0, none, 0, rfl, Nat.zero_le _, rfl, HMS.out⟩
  case round =>
    clear HMS hcv2
    obtain ⟨k, An, cn, Ak, ck, rfl, hk, rfl, hS⟩ := hrel
    have HS := Lib.hid hS
    have hkb2 := HKB.out.below hS.rows.below
    have b5 : wr.cell? ⟨w.heap.size, 5, none⟩ = some (.slice A2 n.ents.length c2) := hkb2.cell 5
    have m5 : wr.cell? ⟨wB.heap.size, 5, none⟩ = some (.slice An k cn) := hS.box.cell 5
    have hzb : wB.heap.size < wr.heap.size := hS.box.lt
    have hzw : w.heap.size < wr.heap.size := hkb2.lt
    have hzn : w.heap.size ≠ wB.heap.size := by have := HZB.out; omega
    clear hS hkb2
    by_cases hlt : k < n.ents.length
    · obtain ⟨e, hke⟩ : ∃ e, n.ents[k]? = some e := ⟨_, List.getElem?_eq_getElem hlt⟩
      obtain ⟨ad, hA, c0, d0⟩ := ents_get (HE.out.below HS.out.rows.below) hke
      subst hA
      have z0 : (ad.add (k * 2)).block < wr.heap.size := World.block_lt_of_cell? _ _ c0
      have hlt' : (k : Int) < (n.ents.length : Int) := by omega
      have HTN := Lib.hid (show nmA (nmE (n.ents.take (k + 1))) = nmA (nmE (n.ents.take k)) ++ [bA e.1] by rw [take_snoc' hke, nmA_app]; rfl)
      have HTK := Lib.hid (show idE (n.ents.take (k + 1)) = idE (n.ents.take k) ++ [e.2] by rw [take_snoc' hke, idE_app]; rfl)
      have hl1 : (nmA (nmE (n.ents.take k))).length = k := by rw [nm_len, List.length_take]; omega
      have hl2 : (idE (n.ents.take k)).length = k := by rw [idE_len, List.length_take]; omega
      have HKE := Lib.hid hke
      clear hke
      generalize nmA (nmE (n.ents.take k)) = LN at HS HTN hl1
      generalize idE (n.ents.take k) = LK at HS HTK hl2
      obtain ⟨i0, hi0, hz0, hz1, hz2⟩ := info_parts info_str
      obtain ⟨j0, hj0, hy0, hy1, hy2⟩ := info_parts info_int
      have HOWN := Lib.hid (show ((wr.alloc (.cells #[.string (bA e.1)] 9)).drew).ownsRow wB.heap.size 9 1 (.slice An k cn) k (sCells LN) by have := (HS.out.mid (.cells #[.string (bA e.1)] 9)).nm; rw [hl1] at this; exact this)
      have HNEW := Lib.hid (show ∀ (j : Nat) (u : Value), [Value.string (bA e.1)][j]? = some u → ((wr.alloc (.cells #[.string (bA e.1)] 9)).drew).cell? ((⟨wr.heap.size, 0, none⟩ : Addr).add j) = some u from
        fun j u hj => World.news_of_block (heap_alloc_new wr (.cells #[.string (bA e.1)] 9)) j u (by simpa using hj))
      have HBS := Lib.hid (show wB.heap.size ≤ ((wr.alloc (.cells #[.string (bA e.1)] 9)).drew).heap.size from (HS.out.mid (.cells #[.string (bA e.1)] 9)).below.size)
      have HL1 := Lib.hid hl1
      have HL2 := Lib.hid hl2
      clear hl1 hl2
      go_wp2
      go_region_law (refine step_append_lies _ rfl (.tmp 27) (.tmp 34) 31 rfl wB.heap.size 9 i0 _ 1 16 Try.underlying31 hi0 hz0 hz1 hz2 rfl (by decide) (.slice An k cn) k (sCells LN) (by simp [Act.eval]) HOWN.out ⟨wr.heap.size, 0, none⟩ 1 1 [.string (bA e.1)] (by simp [Act.eval]) rfl HNEW.out (str_one _) (by decide) (by unfold maxLen; omega) (by omega) HBS.out _ rfl ?_; intro g1 cap1 w2 ho1 hg1 hat1 hlt1; have hbx := HS.out.boxN hg1; have kk0 := hbx.cell 5; have ff0 := hbx.frozen 5; have HST := Lib.hid (HS.out.storedN (s := bA e.1) hg1 (by rw [HL1.out]; exact ho1)); clear ho1 hg1 hat1 hlt1 hbx)
      all_goals (
        with_reducible change Exit.then _ _ _ _ (w2.setCell ⟨wB.heap.size, 5, none⟩ (.slice (some ⟨g1, 0, none⟩) (k + 1) cap1))
        obtain ⟨W3, hW3⟩ : ∃ W3, W3 = w2.setCell ⟨wB.heap.size, 5, none⟩ (.slice (some ⟨g1, 0, none⟩) (k + 1) cap1) := ⟨_, rfl⟩
        rw [← hW3] at HST ⊢
        clear hW3 kk0 ff0 b5 m5 hzb hzw z0 c0 d0
        have hkb3 := HKB.out.below HST.out.rows.below
        have b5 : W3.cell? ⟨w.heap.size, 5, none⟩ = some (.slice (some ad) n.ents.length c2) := hkb3.cell 5
        have m6 : W3.cell? ⟨wB.heap.size, 6, none⟩ = some (.slice Ak k ck) := HST.out.box.cell 6
        have hzb : wB.heap.size < W3.heap.size := HST.out.box.lt
        have hzw : w.heap.size < W3.heap.size := hkb3.lt
        obtain ⟨ad3, hA3, c0, d0⟩ := ents_get (HE.out.below HST.out.rows.below) HKE.out
        injection hA3 with hA3
        subst hA3
        have z0 : (ad.add (k * 2)).block < W3.heap.size := World.block_lt_of_cell? _ _ c0
        have HOWN2 := Lib.hid (show ((W3.alloc (.cells #[.int .i64 e.2] 3)).drew).ownsRow wB.heap.size 3 1 (.slice Ak k ck) k (iCells LK) by have := (HST.out.mid (.cells #[.int .i64 e.2] 3)).kd; rw [HL2.out] at this; exact this)
        have HNEW2 := Lib.hid (show ∀ (j : Nat) (u : Value), [Value.int .i64 e.2][j]? = some u → ((W3.alloc (.cells #[.int .i64 e.2] 3)).drew).cell? ((⟨W3.heap.size, 0, none⟩ : Addr).add j) = some u from
          fun j u hj => World.news_of_block (heap_alloc_new W3 (.cells #[.int .i64 e.2] 3)) j u (by simpa using hj))
        have HBS2 := Lib.hid (show wB.heap.size ≤ ((W3.alloc (.cells #[.int .i64 e.2] 3)).drew).heap.size from (HST.out.mid (.cells #[.int .i64 e.2] 3)).below.size)
        clear hkb3 HS HOWN HNEW HBS
        go_wp2
        go_region_law (refine step_append_lies _ rfl (.tmp 38) (.tmp 45) 32 rfl wB.heap.size 3 j0 _ 1 8 Try.underlying32 hj0 hy0 hy1 hy2 rfl (by decide) (.slice Ak k ck) k (iCells LK) (by simp [Act.eval]) HOWN2.out ⟨W3.heap.size, 0, none⟩ 1 1 [.int .i64 e.2] (by simp [Act.eval]) rfl HNEW2.out (int_one _) (by decide) (by unfold maxLen; omega) (by omega) HBS2.out _ rfl ?_; intro g2 cap2 w4 ho2 hg2 hat2 hlt2; have hbx := HST.out.boxK hg2; have kk0 := hbx.cell 6; have ff0 := hbx.frozen 6; have HST2 := Lib.hid (HST.out.storedK (i := e.2) hg2 (by rw [HL2.out]; exact ho2)); clear ho2 hg2 hat2 hlt2 hbx)
        all_goals (
          go_wp2
          go_roundg (n.ents.length - (k + 1))
          case measure => omega
          case rel => exact ⟨k + 1, _, _, _, _, by go_num, by omega, rfl, by rw [HTN.out, HTK.out]; exact HST2.out⟩))
    · have hlt' : ¬ (k : Int) < (n.ents.length : Int) := by omega
      have hke : n.ents.take k = n.ents := List.take_of_length_le (by omega)
      rw [hke] at HS
      clear hke
      have HKR2 := Lib.hid (HKR.out.below HS.out.rows.below)
      obtain ⟨p0, p1, p2, p3, p4, p5, p6, p7⟩ := HS.out.box.c8
      obtain ⟨r0, r1, r2, r3, r4, r5, r6, r7⟩ := HKR2.out.c8
      obtain ⟨g0, g1, g2, g3, g4, g5, g6, g7⟩ := HKR2.out.f8
      obtain ⟨s0, s1, s2, s3, s4, s5, s6, s7⟩ := HKR2.out.s8
      have hzr : w.heap.size + 1 ≠ wB.heap.size := by have := HZB.out; omega
      go_wp2
      have HG8 := grown8 wr (w.heap.size + 1) (.int .i64 n.kind) (.int .i64 n.mode) (.int .i64 n.uid) (.int .i64 n.gid) (.string (bA n.data)) (.slice An k cn) (.slice Ak k ck) (.string (bA n.target))
      exact bodyPost_ret (v := refV n (.slice An k cn) (.slice Ak k ck)) (by simp [results, Try.results8, go_sem, refV, s0, s1, s2, s3, s4, s5, s6, s7]) rfl (model_end HS.out HKR2.out (bt HS.out.rows.below HBB.out) (Nat.le_succ _) HG8)
end Go.Proofs.Ytilepnepcamnaaa
