/-
  Structs of seven cells, and of eight, that are stored whole; what is known of the types that nodes are of. No condition.
-/
import Derived.Test.YtmapkmjhpebcbaaEnts
import Derived.Laws.Cover1
namespace Go.Proofs.Ytmapkmjhpebcbaa
open Go Go.RowKit

theorem cell_off4 (W : World) (b i j : Nat) (v : Value) (h : i ≠ j) : (W.setCell ⟨b, i, none⟩ v).cell? ⟨b, j, none⟩ = W.cell? ⟨b, j, none⟩ :=
  World.cell?_setCell_other _ _ _ _ (fun e => h (by injection e))
theorem cell_blk4 (W : World) (b b' i j : Nat) (v : Value) (h : b ≠ b') : (W.setCell ⟨b, i, none⟩ v).cell? ⟨b', j, none⟩ = W.cell? ⟨b', j, none⟩ :=
  World.cell?_setCell_other _ _ _ _ (fun e => h (by injection e))
/-- Seven cells that are stored, one behind the other. -/
def put7 (w : World) (g : Nat) (u0 u1 u2 u3 u4 u5 u6 : Value) : World :=
  ((((((w.setCell ⟨g, 0, none⟩ u0).setCell ⟨g, 1, none⟩ u1).setCell ⟨g, 2, none⟩ u2).setCell ⟨g, 3, none⟩ u3).setCell ⟨g, 4, none⟩ u4).setCell ⟨g, 5, none⟩ u5).setCell ⟨g, 6, none⟩ u6
def put8 (w : World) (g : Nat) (u0 u1 u2 u3 u4 u5 u6 u7 : Value) : World := (put7 w g u0 u1 u2 u3 u4 u5 u6).setCell ⟨g, 7, none⟩ u7
theorem grown7 (w : World) (g : Nat) (u0 u1 u2 u3 u4 u5 u6 : Value) : w.grownBy (put7 w g u0 u1 u2 u3 u4 u5 u6) (some g) := by
  have h := fun (W : World) (i : Nat) (u : Value) => grown_setCell W ⟨g, i, none⟩ u
  exact grown_trans (grown_trans (grown_trans (grown_trans (grown_trans (grown_trans (h _ _ _) (h _ _ _)) (h _ _ _)) (h _ _ _)) (h _ _ _)) (h _ _ _)) (h _ _ _)
theorem grown8 (w : World) (g : Nat) (u0 u1 u2 u3 u4 u5 u6 u7 : Value) : w.grownBy (put8 w g u0 u1 u2 u3 u4 u5 u6 u7) (some g) := grown_trans (grown7 w g u0 u1 u2 u3 u4 u5 u6) (grown_setCell _ ⟨g, 7, none⟩ u7)
section
variable {w : World} {g : Nat} {t : TypeId} {a0 a1 a2 a3 a4 a5 a6 a7 : Value}
theorem Blk.set7_0 (h : Blk w g t #[a0, a1, a2, a3, a4, a5, a6]) (u : Value) : Blk (w.setCell ⟨g, 0, none⟩ u) g t #[u, a1, a2, a3, a4, a5, a6] := by simpa using h.set_ 0 u
theorem Blk.set7_1 (h : Blk w g t #[a0, a1, a2, a3, a4, a5, a6]) (u : Value) : Blk (w.setCell ⟨g, 1, none⟩ u) g t #[a0, u, a2, a3, a4, a5, a6] := by simpa using h.set_ 1 u
theorem Blk.set7_2 (h : Blk w g t #[a0, a1, a2, a3, a4, a5, a6]) (u : Value) : Blk (w.setCell ⟨g, 2, none⟩ u) g t #[a0, a1, u, a3, a4, a5, a6] := by simpa using h.set_ 2 u
theorem Blk.set7_3 (h : Blk w g t #[a0, a1, a2, a3, a4, a5, a6]) (u : Value) : Blk (w.setCell ⟨g, 3, none⟩ u) g t #[a0, a1, a2, u, a4, a5, a6] := by simpa using h.set_ 3 u
theorem Blk.set7_4 (h : Blk w g t #[a0, a1, a2, a3, a4, a5, a6]) (u : Value) : Blk (w.setCell ⟨g, 4, none⟩ u) g t #[a0, a1, a2, a3, u, a5, a6] := by simpa using h.set_ 4 u
theorem Blk.set7_5 (h : Blk w g t #[a0, a1, a2, a3, a4, a5, a6]) (u : Value) : Blk (w.setCell ⟨g, 5, none⟩ u) g t #[a0, a1, a2, a3, a4, u, a6] := by simpa using h.set_ 5 u
theorem Blk.set7_6 (h : Blk w g t #[a0, a1, a2, a3, a4, a5, a6]) (u : Value) : Blk (w.setCell ⟨g, 6, none⟩ u) g t #[a0, a1, a2, a3, a4, a5, u] := by simpa using h.set_ 6 u
theorem Blk.put7 (h : Blk w g t #[a0, a1, a2, a3, a4, a5, a6]) (u0 u1 u2 u3 u4 u5 u6 : Value) : Blk (put7 w g u0 u1 u2 u3 u4 u5 u6) g t #[u0, u1, u2, u3, u4, u5, u6] := (((((((h.set7_0 u0).set7_1 u1).set7_2 u2).set7_3 u3).set7_4 u4).set7_5 u5).set7_6 u6)
/-- What the cells are. -/
theorem Blk.c7 (h : Blk w g t #[a0, a1, a2, a3, a4, a5, a6]) : w.cell? ⟨g, 0, none⟩ = some a0 ∧ w.cell? ⟨g, 1, none⟩ = some a1 ∧ w.cell? ⟨g, 2, none⟩ = some a2 ∧ w.cell? ⟨g, 3, none⟩ = some a3 ∧ w.cell? ⟨g, 4, none⟩ = some a4 ∧ w.cell? ⟨g, 5, none⟩ = some a5 ∧ w.cell? ⟨g, 6, none⟩ = some a6 :=
  ⟨h.cell 0, h.cell 1, h.cell 2, h.cell 3, h.cell 4, h.cell 5, h.cell 6⟩
theorem Blk.f7 (h : Blk w g t #[a0, a1, a2, a3, a4, a5, a6]) : w.frozen? ⟨g, 0, none⟩ = false ∧ w.frozen? ⟨g, 1, none⟩ = false ∧ w.frozen? ⟨g, 2, none⟩ = false ∧ w.frozen? ⟨g, 3, none⟩ = false ∧ w.frozen? ⟨g, 4, none⟩ = false ∧ w.frozen? ⟨g, 5, none⟩ = false ∧ w.frozen? ⟨g, 6, none⟩ = false :=
  ⟨h.frozen 0, h.frozen 1, h.frozen 2, h.frozen 3, h.frozen 4, h.frozen 5, h.frozen 6⟩
/-- What is stored is read again. -/
theorem Blk.s7 (h : Blk w g t #[a0, a1, a2, a3, a4, a5, a6]) : (∀ u0, (w.setCell ⟨g, 0, none⟩ u0).cell? ⟨g, 0, none⟩ = some u0) ∧
    (∀ u0 u1, ((w.setCell ⟨g, 0, none⟩ u0).setCell ⟨g, 1, none⟩ u1).cell? ⟨g, 1, none⟩ = some u1) ∧
    (∀ u0 u1 u2, (((w.setCell ⟨g, 0, none⟩ u0).setCell ⟨g, 1, none⟩ u1).setCell ⟨g, 2, none⟩ u2).cell? ⟨g, 2, none⟩ = some u2) ∧
    (∀ u0 u1 u2 u3, ((((w.setCell ⟨g, 0, none⟩ u0).setCell ⟨g, 1, none⟩ u1).setCell ⟨g, 2, none⟩ u2).setCell ⟨g, 3, none⟩ u3).cell? ⟨g, 3, none⟩ = some u3) ∧
    (∀ u0 u1 u2 u3 u4, (((((w.setCell ⟨g, 0, none⟩ u0).setCell ⟨g, 1, none⟩ u1).setCell ⟨g, 2, none⟩ u2).setCell ⟨g, 3, none⟩ u3).setCell ⟨g, 4, none⟩ u4).cell? ⟨g, 4, none⟩ = some u4) ∧
    (∀ u0 u1 u2 u3 u4 u5, ((((((w.setCell ⟨g, 0, none⟩ u0).setCell ⟨g, 1, none⟩ u1).setCell ⟨g, 2, none⟩ u2).setCell ⟨g, 3, none⟩ u3).setCell ⟨g, 4, none⟩ u4).setCell ⟨g, 5, none⟩ u5).cell? ⟨g, 5, none⟩ = some u5) ∧
    (∀ u0 u1 u2 u3 u4 u5 u6, (((((((w.setCell ⟨g, 0, none⟩ u0).setCell ⟨g, 1, none⟩ u1).setCell ⟨g, 2, none⟩ u2).setCell ⟨g, 3, none⟩ u3).setCell ⟨g, 4, none⟩ u4).setCell ⟨g, 5, none⟩ u5).setCell ⟨g, 6, none⟩ u6).cell? ⟨g, 6, none⟩ = some u6) :=
  ⟨fun u0 => (h.set7_0 u0).cell 0,
    fun u0 u1 => ((h.set7_0 u0).set7_1 u1).cell 1,
    fun u0 u1 u2 => (((h.set7_0 u0).set7_1 u1).set7_2 u2).cell 2,
    fun u0 u1 u2 u3 => ((((h.set7_0 u0).set7_1 u1).set7_2 u2).set7_3 u3).cell 3,
    fun u0 u1 u2 u3 u4 => (((((h.set7_0 u0).set7_1 u1).set7_2 u2).set7_3 u3).set7_4 u4).cell 4,
    fun u0 u1 u2 u3 u4 u5 => ((((((h.set7_0 u0).set7_1 u1).set7_2 u2).set7_3 u3).set7_4 u4).set7_5 u5).cell 5,
    fun u0 u1 u2 u3 u4 u5 u6 => (((((((h.set7_0 u0).set7_1 u1).set7_2 u2).set7_3 u3).set7_4 u4).set7_5 u5).set7_6 u6).cell 6⟩
theorem Blk.set8_0 (h : Blk w g t #[a0, a1, a2, a3, a4, a5, a6, a7]) (u : Value) : Blk (w.setCell ⟨g, 0, none⟩ u) g t #[u, a1, a2, a3, a4, a5, a6, a7] := by simpa using h.set_ 0 u
theorem Blk.set8_1 (h : Blk w g t #[a0, a1, a2, a3, a4, a5, a6, a7]) (u : Value) : Blk (w.setCell ⟨g, 1, none⟩ u) g t #[a0, u, a2, a3, a4, a5, a6, a7] := by simpa using h.set_ 1 u
theorem Blk.set8_2 (h : Blk w g t #[a0, a1, a2, a3, a4, a5, a6, a7]) (u : Value) : Blk (w.setCell ⟨g, 2, none⟩ u) g t #[a0, a1, u, a3, a4, a5, a6, a7] := by simpa using h.set_ 2 u
theorem Blk.set8_3 (h : Blk w g t #[a0, a1, a2, a3, a4, a5, a6, a7]) (u : Value) : Blk (w.setCell ⟨g, 3, none⟩ u) g t #[a0, a1, a2, u, a4, a5, a6, a7] := by simpa using h.set_ 3 u
theorem Blk.set8_4 (h : Blk w g t #[a0, a1, a2, a3, a4, a5, a6, a7]) (u : Value) : Blk (w.setCell ⟨g, 4, none⟩ u) g t #[a0, a1, a2, a3, u, a5, a6, a7] := by simpa using h.set_ 4 u
theorem Blk.set8_5 (h : Blk w g t #[a0, a1, a2, a3, a4, a5, a6, a7]) (u : Value) : Blk (w.setCell ⟨g, 5, none⟩ u) g t #[a0, a1, a2, a3, a4, u, a6, a7] := by simpa using h.set_ 5 u
theorem Blk.set8_6 (h : Blk w g t #[a0, a1, a2, a3, a4, a5, a6, a7]) (u : Value) : Blk (w.setCell ⟨g, 6, none⟩ u) g t #[a0, a1, a2, a3, a4, a5, u, a7] := by simpa using h.set_ 6 u
theorem Blk.set8_7 (h : Blk w g t #[a0, a1, a2, a3, a4, a5, a6, a7]) (u : Value) : Blk (w.setCell ⟨g, 7, none⟩ u) g t #[a0, a1, a2, a3, a4, a5, a6, u] := by simpa using h.set_ 7 u
theorem Blk.put8 (h : Blk w g t #[a0, a1, a2, a3, a4, a5, a6, a7]) (u0 u1 u2 u3 u4 u5 u6 u7 : Value) : Blk (put8 w g u0 u1 u2 u3 u4 u5 u6 u7) g t #[u0, u1, u2, u3, u4, u5, u6, u7] := ((((((((h.set8_0 u0).set8_1 u1).set8_2 u2).set8_3 u3).set8_4 u4).set8_5 u5).set8_6 u6).set8_7 u7)
/-- What the cells are. -/
theorem Blk.c8 (h : Blk w g t #[a0, a1, a2, a3, a4, a5, a6, a7]) : w.cell? ⟨g, 0, none⟩ = some a0 ∧ w.cell? ⟨g, 1, none⟩ = some a1 ∧ w.cell? ⟨g, 2, none⟩ = some a2 ∧ w.cell? ⟨g, 3, none⟩ = some a3 ∧ w.cell? ⟨g, 4, none⟩ = some a4 ∧ w.cell? ⟨g, 5, none⟩ = some a5 ∧ w.cell? ⟨g, 6, none⟩ = some a6 ∧ w.cell? ⟨g, 7, none⟩ = some a7 :=
  ⟨h.cell 0, h.cell 1, h.cell 2, h.cell 3, h.cell 4, h.cell 5, h.cell 6, h.cell 7⟩
theorem Blk.f8 (h : Blk w g t #[a0, a1, a2, a3, a4, a5, a6, a7]) : w.frozen? ⟨g, 0, none⟩ = false ∧ w.frozen? ⟨g, 1, none⟩ = false ∧ w.frozen? ⟨g, 2, none⟩ = false ∧ w.frozen? ⟨g, 3, none⟩ = false ∧ w.frozen? ⟨g, 4, none⟩ = false ∧ w.frozen? ⟨g, 5, none⟩ = false ∧ w.frozen? ⟨g, 6, none⟩ = false ∧ w.frozen? ⟨g, 7, none⟩ = false :=
  ⟨h.frozen 0, h.frozen 1, h.frozen 2, h.frozen 3, h.frozen 4, h.frozen 5, h.frozen 6, h.frozen 7⟩
/-- What is stored is read again. -/
theorem Blk.s8 (h : Blk w g t #[a0, a1, a2, a3, a4, a5, a6, a7]) : (∀ u0, (w.setCell ⟨g, 0, none⟩ u0).cell? ⟨g, 0, none⟩ = some u0) ∧
    (∀ u0 u1, ((w.setCell ⟨g, 0, none⟩ u0).setCell ⟨g, 1, none⟩ u1).cell? ⟨g, 1, none⟩ = some u1) ∧
    (∀ u0 u1 u2, (((w.setCell ⟨g, 0, none⟩ u0).setCell ⟨g, 1, none⟩ u1).setCell ⟨g, 2, none⟩ u2).cell? ⟨g, 2, none⟩ = some u2) ∧
    (∀ u0 u1 u2 u3, ((((w.setCell ⟨g, 0, none⟩ u0).setCell ⟨g, 1, none⟩ u1).setCell ⟨g, 2, none⟩ u2).setCell ⟨g, 3, none⟩ u3).cell? ⟨g, 3, none⟩ = some u3) ∧
    (∀ u0 u1 u2 u3 u4, (((((w.setCell ⟨g, 0, none⟩ u0).setCell ⟨g, 1, none⟩ u1).setCell ⟨g, 2, none⟩ u2).setCell ⟨g, 3, none⟩ u3).setCell ⟨g, 4, none⟩ u4).cell? ⟨g, 4, none⟩ = some u4) ∧
    (∀ u0 u1 u2 u3 u4 u5, ((((((w.setCell ⟨g, 0, none⟩ u0).setCell ⟨g, 1, none⟩ u1).setCell ⟨g, 2, none⟩ u2).setCell ⟨g, 3, none⟩ u3).setCell ⟨g, 4, none⟩ u4).setCell ⟨g, 5, none⟩ u5).cell? ⟨g, 5, none⟩ = some u5) ∧
    (∀ u0 u1 u2 u3 u4 u5 u6, (((((((w.setCell ⟨g, 0, none⟩ u0).setCell ⟨g, 1, none⟩ u1).setCell ⟨g, 2, none⟩ u2).setCell ⟨g, 3, none⟩ u3).setCell ⟨g, 4, none⟩ u4).setCell ⟨g, 5, none⟩ u5).setCell ⟨g, 6, none⟩ u6).cell? ⟨g, 6, none⟩ = some u6) ∧
    (∀ u0 u1 u2 u3 u4 u5 u6 u7, ((((((((w.setCell ⟨g, 0, none⟩ u0).setCell ⟨g, 1, none⟩ u1).setCell ⟨g, 2, none⟩ u2).setCell ⟨g, 3, none⟩ u3).setCell ⟨g, 4, none⟩ u4).setCell ⟨g, 5, none⟩ u5).setCell ⟨g, 6, none⟩ u6).setCell ⟨g, 7, none⟩ u7).cell? ⟨g, 7, none⟩ = some u7) :=
  ⟨fun u0 => (h.set8_0 u0).cell 0,
    fun u0 u1 => ((h.set8_0 u0).set8_1 u1).cell 1,
    fun u0 u1 u2 => (((h.set8_0 u0).set8_1 u1).set8_2 u2).cell 2,
    fun u0 u1 u2 u3 => ((((h.set8_0 u0).set8_1 u1).set8_2 u2).set8_3 u3).cell 3,
    fun u0 u1 u2 u3 u4 => (((((h.set8_0 u0).set8_1 u1).set8_2 u2).set8_3 u3).set8_4 u4).cell 4,
    fun u0 u1 u2 u3 u4 u5 => ((((((h.set8_0 u0).set8_1 u1).set8_2 u2).set8_3 u3).set8_4 u4).set8_5 u5).cell 5,
    fun u0 u1 u2 u3 u4 u5 u6 => (((((((h.set8_0 u0).set8_1 u1).set8_2 u2).set8_3 u3).set8_4 u4).set8_5 u5).set8_6 u6).cell 6,
    fun u0 u1 u2 u3 u4 u5 u6 u7 => ((((((((h.set8_0 u0).set8_1 u1).set8_2 u2).set8_3 u3).set8_4 u4).set8_5 u5).set8_6 u6).set8_7 u7).cell 7⟩
end
theorem EntsX.kept {w w' : World} {B g : Nat} {v : Value} {l : List En} {cs : Array Value} {t : TypeId} (h : EntsX w B v l) (hk : Blk w g t cs) (ht : t ≠ 72) (hg : w.grownBy w' (some g)) : EntsX w' B v l := by
  rcases h with h | ⟨g', h1, h2, h3, h4⟩
  · exact .inl h
  · refine .inr ⟨g', h1, h2, h3, h4.kept hg ?_⟩
    intro e
    injection e with e
    subst e
    unfold Blk at hk h4
    rw [hk] at h4
    injection h4 with h4
    injection h4 with _ h4
    exact ht h4
theorem EntsX.lower {w : World} {B B' : Nat} {v : Value} {l : List En} (h : EntsX w B v l) (hB : B' ≤ B) : EntsX w B' v l := by
  rcases h with h | ⟨g, h1, h2⟩
  · exact .inl h
  · exact .inr ⟨g, Nat.le_trans hB h1, h2⟩
theorem BytesX.lower {w : World} {B B' : Nat} {v : Value} {l : List UInt8} (h : BytesX w B v l) (hB : B' ≤ B) : BytesX w B' v l := by
  rcases h with h | ⟨g, h1, h2⟩
  · exact .inl h
  · exact .inr ⟨g, Nat.le_trans hB h1, h2⟩
theorem below_grown {w0 w w' : World} {g : Nat} (hb : Below w0.heap.size w0 w) (hg : w.grownBy w' (some g)) (h : w0.heap.size ≤ g) : Below w0.heap.size w0 w' := hb.grown hg hb.size (fun q hq => by injection hq with hq; omega)
/-- A node's cells. -/
abbrev ndC (n : Nd) (vd ve : Value) : Array Value := #[.int .i64 n.kind, .int .i64 n.mode, .int .i64 n.uid, .int .i64 n.gid, vd, ve, .string (bA n.target)]
abbrev ndZ : Array Value := #[.int .i64 0, .int .i64 0, .int .i64 0, .int .i64 0, .slice none 0 0, .slice none 0 0, .string ⟨#[]⟩]
theorem slice_one (A : Option Addr) (n c : Nat) : (Value.slice A n c).oneCell' = true := rfl
theorem entsX_form {w : World} {B : Nat} {v : Value} {l : List En} (h : EntsX w B v l) : ∃ A c, v = .slice A l.length c := ents_form h.ents rfl
theorem bytesX_form {w : World} {B : Nat} {v : Value} {l : List UInt8} (h : BytesX w B v l) : ∃ A c, v = .slice A l.length c := bytes_form h.bytes rfl
theorem blk_setRow {w : World} {g : Nat} {t : TypeId} {cs ds : Array Value} (h : Blk w g t cs) : Blk (w.setRow g ds) g t ds := setRow_heap w g cs ds t (0, 0) h
theorem info_ent : (Try.prog.info? 72).map (fun i => (i.zero, i.size, i.bytes)) = some (some (.agg #[.string ⟨#[]⟩, .int .i64 0]), 2, 24) := by kernel_rfl
theorem info_u8 : (Try.prog.info? 5).map (fun i => (i.zero, i.size, i.bytes)) = some (some (.int .u8 0), 1, 1) := by kernel_rfl
theorem info_int : (Try.prog.info? 3).map (fun i => (i.zero, i.size, i.bytes)) = some (some (.int .i64 0), 1, 8) := by kernel_rfl
theorem size_ent : (Try.prog.info? 72).map (·.size) = some 2 := by kernel_rfl
theorem size_u8 : (Try.prog.info? 5).map (·.size) = some 1 := by kernel_rfl
theorem box_ents {w : World} {n : Nd} {vd ve : Value} (he : EntsR w ve n.ents) : EntsR (w.alloc (.cells (ndC n vd ve) 39)) ve n.ents := he.below (ba _ _)
theorem ent_one (e : En) : ∀ u ∈ [Value.string (bA e.1), .int .i64 e.2], u.oneCell' = true := by
  intro u hu
  simp only [List.mem_cons, List.mem_nil_iff, or_false] at hu
  rcases hu with rfl | rfl <;> rfl
theorem EntsR.of_own {w : World} {B : Nat} {e : TypeId} {v : Value} {l : List En} (h : w.ownsRow B e 2 v l.length (eCells l)) : EntsR w v l := by
  rcases h.2 with ⟨rfl, hn⟩ | ⟨g, cap, cur, rfl, _⟩
  · have : l = [] := List.eq_nil_of_length_eq_zero hn
    subst this
    exact EntsR.nil w
  · refine ⟨some ⟨g, 0, none⟩, cap, rfl, fun k a hk => ⟨_, rfl, ?_⟩⟩
    obtain ⟨h0, h1⟩ := eCells_at l k a hk
    rw [add_lit]
    exact ⟨row_at h _ _ h0, row_at h _ _ h1⟩
theorem EntsT.of_own {w : World} {B : Nat} {v : Value} {l : List En} (h : w.ownsRow B 72 2 v l.length (eCells l)) : EntsT w v l := by
  refine ⟨EntsR.of_own h, fun ad n c hv => ?_⟩
  rcases h.2 with ⟨rfl, hn⟩ | ⟨g, cap, cur, rfl, _, hh, _⟩
  · injection hv with hv; cases hv
  · injection hv with hA
    injection hA with hA
    subst hA
    exact ⟨cur, hh⟩
theorem EntsX.own {w : World} {B : Nat} {v : Value} {l : List En} (h : EntsX w B v l) (hn : l.length ≤ 1000000) : w.ownsRow B 72 2 v l.length (eCells l) := by
  rcases h with ⟨rfl, rfl⟩ | ⟨g, h1, rfl, -, h4⟩
  · exact World.ownsRow_nil _ _ _ _
  · refine ⟨eCells_len l, .inr ⟨g, l.length, _, rfl, h1, h4, Nat.le_refl _, by unfold maxLen; omega, ?_, ?_⟩⟩
    · rw [List.size_toArray, eCells_len]
    · rw [List.take_of_length_le (by rw [eCells_len]; exact Nat.le_refl _)]
end Go.Proofs.Ytmapkmjhpebcbaa
