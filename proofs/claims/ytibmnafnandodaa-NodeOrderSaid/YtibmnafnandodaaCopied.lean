/-
  A struct of seven cells, and of eight, that is stored whole; copied. The condition: no list is longer than a million.
-/
import Derived.Test.YtibmnafnandodaaCopy
namespace Go.Proofs.Ytibmnafnandodaa
open Go Go.RowKit

theorem cell_off4 (W : World) (b i j : Nat) (v : Value) (h : i ≠ j) : (W.setCell ⟨b, i, none⟩ v).cell? ⟨b, j, none⟩ = W.cell? ⟨b, j, none⟩ :=
  World.cell?_setCell_other _ _ _ _ (fun e => h (by injection e))
theorem cell_blk4 (W : World) (b b' i j : Nat) (v : Value) (h : b ≠ b') : (W.setCell ⟨b, i, none⟩ v).cell? ⟨b', j, none⟩ = W.cell? ⟨b', j, none⟩ :=
  World.cell?_setCell_other _ _ _ _ (fun e => h (by injection e))
/-- Seven cells that are stored, one behind the other. -/
def put7 (w : World) (g : Nat) (u0 u1 u2 u3 u4 u5 u6 : Value) : World :=
  ((((((w.setCell ⟨g, 0, none⟩ u0).setCell ⟨g, 1, none⟩ u1).setCell ⟨g, 2, none⟩ u2).setCell ⟨g, 3, none⟩ u3).setCell ⟨g, 4, none⟩ u4).setCell ⟨g, 5, none⟩ u5).setCell ⟨g, 6, none⟩ u6
def put8 (w : World) (g : Nat) (u0 u1 u2 u3 u4 u5 u6 u7 : Value) : World := (put7 w g u0 u1 u2 u3 u4 u5 u6).setCell ⟨g, 7, none⟩ u7
theorem grown7 (w : World) (g : Nat) (u0 u1 u2 u3 u4 u5 u6 : Value) : w.grownBy (put7 w g u0 u1 u2 u3 u4 u5 u6) (some g) := by
  have h := fun (W : World) (i : Nat) (u : Value) => grown_setCell W ⟨g, i, none⟩ u
  exact grown_trans (grown_trans (grown_trans (grown_trans (grown_trans (grown_trans (h _ _ _) (h _ _ _)) (h _ _ _)) (h _ _ _)) (h _ _ _)) (h _ _ _)) (h _ _ _)
theorem grown8 (w : World) (g : Nat) (u0 u1 u2 u3 u4 u5 u6 u7 : Value) : w.grownBy (put8 w g u0 u1 u2 u3 u4 u5 u6 u7) (some g) := grown_trans (grown7 w g u0 u1 u2 u3 u4 u5 u6) (grown_setCell _ ⟨g, 7, none⟩ u7)
section
variable {w : World} {g : Nat} {t : TypeId} {a0 a1 a2 a3 a4 a5 a6 a7 : Value}
theorem Blk.set7_0 (h : Blk w g t #[a0, a1, a2, a3, a4, a5, a6]) (u : Value) : Blk (w.setCell ⟨g, 0, none⟩ u) g t #[u, a1, a2, a3, a4, a5, a6] := by simpa using h.set_ 0 u
theorem Blk.set7_1 (h : Blk w g t #[a0, a1, a2, a3, a4, a5, a6]) (u : Value) : Blk (w.setCell ⟨g, 1, none⟩ u) g t #[a0, u, a2, a3, a4, a5, a6] := by simpa using h.set_ 1 u
theorem Blk.set7_2 (h : Blk w g t #[a0, a1, a2, a3, a4, a5, a6]) (u : Value) : Blk (w.setCell ⟨g, 2, none⟩ u) g t #[a0, a1, u, a3, a4, a5, a6] := by simpa using h.set_ 2 u
theorem Blk.set7_3 (h : Blk w g t #[a0, a1, a2, a3, a4, a5, a6]) (u : Value) : Blk (w.setCell ⟨g, 3, none⟩ u) g t #[a0, a1, a2, u, a4, a5, a6] := by simpa using h.set_ 3 u
theorem Blk.set7_4 (h : Blk w g t #[a0, a1, a2, a3, a4, a5, a6]) (u : Value) : Blk (w.setCell ⟨g, 4, none⟩ u) g t #[a0, a1, a2, a3, u, a5, a6] := by simpa using h.set_ 4 u
theorem Blk.set7_5 (h : Blk w g t #[a0, a1, a2, a3, a4, a5, a6]) (u : Value) : Blk (w.setCell ⟨g, 5, none⟩ u) g t #[a0, a1, a2, a3, a4, u, a6] := by simpa using h.set_ 5 u
theorem Blk.set7_6 (h : Blk w g t #[a0, a1, a2, a3, a4, a5, a6]) (u : Value) : Blk (w.setCell ⟨g, 6, none⟩ u) g t #[a0, a1, a2, a3, a4, a5, u] := by simpa using h.set_ 6 u
theorem Blk.put7 (h : Blk w g t #[a0, a1, a2, a3, a4, a5, a6]) (u0 u1 u2 u3 u4 u5 u6 : Value) : Blk (put7 w g u0 u1 u2 u3 u4 u5 u6) g t #[u0, u1, u2, u3, u4, u5, u6] := (((((((h.set7_0 u0).set7_1 u1).set7_2 u2).set7_3 u3).set7_4 u4).set7_5 u5).set7_6 u6)
/-- What the cells are. -/
theorem Blk.c7 (h : Blk w g t #[a0, a1, a2, a3, a4, a5, a6]) : w.cell? ⟨g, 0, none⟩ = some a0 ∧ w.cell? ⟨g, 1, none⟩ = some a1 ∧ w.cell? ⟨g, 2, none⟩ = some a2 ∧ w.cell? ⟨g, 3, none⟩ = some a3 ∧ w.cell? ⟨g, 4, none⟩ = some a4 ∧ w.cell? ⟨g, 5, none⟩ = some a5 ∧ w.cell? ⟨g, 6, none⟩ = some a6 :=
  ⟨h.cell 0, h.cell 1, h.cell 2, h.cell 3, h.cell 4, h.cell 5, h.cell 6⟩
theorem Blk.f7 (h : Blk w g t #[a0, a1, a2, a3, a4, a5, a6]) : w.frozen? ⟨g, 0, none⟩ = false ∧ w.frozen? ⟨g, 1, none⟩ = false ∧ w.frozen? ⟨g, 2, none⟩ = false ∧ w.frozen? ⟨g, 3, none⟩ = false ∧ w.frozen? ⟨g, 4, none⟩ = false ∧ w.frozen? ⟨g, 5, none⟩ = false ∧ w.frozen? ⟨g, 6, none⟩ = false :=
  ⟨h.frozen 0, h.frozen 1, h.frozen 2, h.frozen 3, h.frozen 4, h.frozen 5, h.frozen 6⟩
/-- What is stored is read again. -/
theorem Blk.s7 (h : Blk w g t #[a0, a1, a2, a3, a4, a5, a6]) : (∀ u0, (w.setCell ⟨g, 0, none⟩ u0).cell? ⟨g, 0, none⟩ = some u0) ∧
    (∀ u0 u1, ((w.setCell ⟨g, 0, none⟩ u0).setCell ⟨g, 1, none⟩ u1).cell? ⟨g, 1, none⟩ = some u1) ∧
    (∀ u0 u1 u2, (((w.setCell ⟨g, 0, none⟩ u0).setCell ⟨g, 1, none⟩ u1).setCell ⟨g, 2, none⟩ u2).cell? ⟨g, 2, none⟩ = some u2) ∧
    (∀ u0 u1 u2 u3, ((((w.setCell ⟨g, 0, none⟩ u0).setCell ⟨g, 1, none⟩ u1).setCell ⟨g, 2, none⟩ u2).setCell ⟨g, 3, none⟩ u3).cell? ⟨g, 3, none⟩ = some u3) ∧
    (∀ u0 u1 u2 u3 u4, (((((w.setCell ⟨g, 0, none⟩ u0).setCell ⟨g, 1, none⟩ u1).setCell ⟨g, 2, none⟩ u2).setCell ⟨g, 3, none⟩ u3).setCell ⟨g, 4, none⟩ u4).cell? ⟨g, 4, none⟩ = some u4) ∧
    (∀ u0 u1 u2 u3 u4 u5, ((((((w.setCell ⟨g, 0, none⟩ u0).setCell ⟨g, 1, none⟩ u1).setCell ⟨g, 2, none⟩ u2).setCell ⟨g, 3, none⟩ u3).setCell ⟨g, 4, none⟩ u4).setCell ⟨g, 5, none⟩ u5).cell? ⟨g, 5, none⟩ = some u5) ∧
    (∀ u0 u1 u2 u3 u4 u5 u6, (((((((w.setCell ⟨g, 0, none⟩ u0).setCell ⟨g, 1, none⟩ u1).setCell ⟨g, 2, none⟩ u2).setCell ⟨g, 3, none⟩ u3).setCell ⟨g, 4, none⟩ u4).setCell ⟨g, 5, none⟩ u5).setCell ⟨g, 6, none⟩ u6).cell? ⟨g, 6, none⟩ = some u6) :=
  ⟨fun u0 => (h.set7_0 u0).cell 0,
    fun u0 u1 => ((h.set7_0 u0).set7_1 u1).cell 1,
    fun u0 u1 u2 => (((h.set7_0 u0).set7_1 u1).set7_2 u2).cell 2,
    fun u0 u1 u2 u3 => ((((h.set7_0 u0).set7_1 u1).set7_2 u2).set7_3 u3).cell 3,
    fun u0 u1 u2 u3 u4 => (((((h.set7_0 u0).set7_1 u1).set7_2 u2).set7_3 u3).set7_4 u4).cell 4,
    fun u0 u1 u2 u3 u4 u5 => ((((((h.set7_0 u0).set7_1 u1).set7_2 u2).set7_3 u3).set7_4 u4).set7_5 u5).cell 5,
    fun u0 u1 u2 u3 u4 u5 u6 => (((((((h.set7_0 u0).set7_1 u1).set7_2 u2).set7_3 u3).set7_4 u4).set7_5 u5).set7_6 u6).cell 6⟩
theorem Blk.set8_0 (h : Blk w g t #[a0, a1, a2, a3, a4, a5, a6, a7]) (u : Value) : Blk (w.setCell ⟨g, 0, none⟩ u) g t #[u, a1, a2, a3, a4, a5, a6, a7] := by simpa using h.set_ 0 u
theorem Blk.set8_1 (h : Blk w g t #[a0, a1, a2, a3, a4, a5, a6, a7]) (u : Value) : Blk (w.setCell ⟨g, 1, none⟩ u) g t #[a0, u, a2, a3, a4, a5, a6, a7] := by simpa using h.set_ 1 u
theorem Blk.set8_2 (h : Blk w g t #[a0, a1, a2, a3, a4, a5, a6, a7]) (u : Value) : Blk (w.setCell ⟨g, 2, none⟩ u) g t #[a0, a1, u, a3, a4, a5, a6, a7] := by simpa using h.set_ 2 u
theorem Blk.set8_3 (h : Blk w g t #[a0, a1, a2, a3, a4, a5, a6, a7]) (u : Value) : Blk (w.setCell ⟨g, 3, none⟩ u) g t #[a0, a1, a2, u, a4, a5, a6, a7] := by simpa using h.set_ 3 u
theorem Blk.set8_4 (h : Blk w g t #[a0, a1, a2, a3, a4, a5, a6, a7]) (u : Value) : Blk (w.setCell ⟨g, 4, none⟩ u) g t #[a0, a1, a2, a3, u, a5, a6, a7] := by simpa using h.set_ 4 u
theorem Blk.set8_5 (h : Blk w g t #[a0, a1, a2, a3, a4, a5, a6, a7]) (u : Value) : Blk (w.setCell ⟨g, 5, none⟩ u) g t #[a0, a1, a2, a3, a4, u, a6, a7] := by simpa using h.set_ 5 u
theorem Blk.set8_6 (h : Blk w g t #[a0, a1, a2, a3, a4, a5, a6, a7]) (u : Value) : Blk (w.setCell ⟨g, 6, none⟩ u) g t #[a0, a1, a2, a3, a4, a5, u, a7] := by simpa using h.set_ 6 u
theorem Blk.set8_7 (h : Blk w g t #[a0, a1, a2, a3, a4, a5, a6, a7]) (u : Value) : Blk (w.setCell ⟨g, 7, none⟩ u) g t #[a0, a1, a2, a3, a4, a5, a6, u] := by simpa using h.set_ 7 u
theorem Blk.put8 (h : Blk w g t #[a0, a1, a2, a3, a4, a5, a6, a7]) (u0 u1 u2 u3 u4 u5 u6 u7 : Value) : Blk (put8 w g u0 u1 u2 u3 u4 u5 u6 u7) g t #[u0, u1, u2, u3, u4, u5, u6, u7] := ((((((((h.set8_0 u0).set8_1 u1).set8_2 u2).set8_3 u3).set8_4 u4).set8_5 u5).set8_6 u6).set8_7 u7)
/-- What the cells are. -/
theorem Blk.c8 (h : Blk w g t #[a0, a1, a2, a3, a4, a5, a6, a7]) : w.cell? ⟨g, 0, none⟩ = some a0 ∧ w.cell? ⟨g, 1, none⟩ = some a1 ∧ w.cell? ⟨g, 2, none⟩ = some a2 ∧ w.cell? ⟨g, 3, none⟩ = some a3 ∧ w.cell? ⟨g, 4, none⟩ = some a4 ∧ w.cell? ⟨g, 5, none⟩ = some a5 ∧ w.cell? ⟨g, 6, none⟩ = some a6 ∧ w.cell? ⟨g, 7, none⟩ = some a7 :=
  ⟨h.cell 0, h.cell 1, h.cell 2, h.cell 3, h.cell 4, h.cell 5, h.cell 6, h.cell 7⟩
theorem Blk.f8 (h : Blk w g t #[a0, a1, a2, a3, a4, a5, a6, a7]) : w.frozen? ⟨g, 0, none⟩ = false ∧ w.frozen? ⟨g, 1, none⟩ = false ∧ w.frozen? ⟨g, 2, none⟩ = false ∧ w.frozen? ⟨g, 3, none⟩ = false ∧ w.frozen? ⟨g, 4, none⟩ = false ∧ w.frozen? ⟨g, 5, none⟩ = false ∧ w.frozen? ⟨g, 6, none⟩ = false ∧ w.frozen? ⟨g, 7, none⟩ = false :=
  ⟨h.frozen 0, h.frozen 1, h.frozen 2, h.frozen 3, h.frozen 4, h.frozen 5, h.frozen 6, h.frozen 7⟩
/-- What is stored is read again. -/
theorem Blk.s8 (h : Blk w g t #[a0, a1, a2, a3, a4, a5, a6, a7]) : (∀ u0, (w.setCell ⟨g, 0, none⟩ u0).cell? ⟨g, 0, none⟩ = some u0) ∧
    (∀ u0 u1, ((w.setCell ⟨g, 0, none⟩ u0).setCell ⟨g, 1, none⟩ u1).cell? ⟨g, 1, none⟩ = some u1) ∧
    (∀ u0 u1 u2, (((w.setCell ⟨g, 0, none⟩ u0).setCell ⟨g, 1, none⟩ u1).setCell ⟨g, 2, none⟩ u2).cell? ⟨g, 2, none⟩ = some u2) ∧
    (∀ u0 u1 u2 u3, ((((w.setCell ⟨g, 0, none⟩ u0).setCell ⟨g, 1, none⟩ u1).setCell ⟨g, 2, none⟩ u2).setCell ⟨g, 3, none⟩ u3).cell? ⟨g, 3, none⟩ = some u3) ∧
    (∀ u0 u1 u2 u3 u4, (((((w.setCell ⟨g, 0, none⟩ u0).setCell ⟨g, 1, none⟩ u1).setCell ⟨g, 2, none⟩ u2).setCell ⟨g, 3, none⟩ u3).setCell ⟨g, 4, none⟩ u4).cell? ⟨g, 4, none⟩ = some u4) ∧
    (∀ u0 u1 u2 u3 u4 u5, ((((((w.setCell ⟨g, 0, none⟩ u0).setCell ⟨g, 1, none⟩ u1).setCell ⟨g, 2, none⟩ u2).setCell ⟨g, 3, none⟩ u3).setCell ⟨g, 4, none⟩ u4).setCell ⟨g, 5, none⟩ u5).cell? ⟨g, 5, none⟩ = some u5) ∧
    (∀ u0 u1 u2 u3 u4 u5 u6, (((((((w.setCell ⟨g, 0, none⟩ u0).setCell ⟨g, 1, none⟩ u1).setCell ⟨g, 2, none⟩ u2).setCell ⟨g, 3, none⟩ u3).setCell ⟨g, 4, none⟩ u4).setCell ⟨g, 5, none⟩ u5).setCell ⟨g, 6, none⟩ u6).cell? ⟨g, 6, none⟩ = some u6) ∧
    (∀ u0 u1 u2 u3 u4 u5 u6 u7, ((((((((w.setCell ⟨g, 0, none⟩ u0).setCell ⟨g, 1, none⟩ u1).setCell ⟨g, 2, none⟩ u2).setCell ⟨g, 3, none⟩ u3).setCell ⟨g, 4, none⟩ u4).setCell ⟨g, 5, none⟩ u5).setCell ⟨g, 6, none⟩ u6).setCell ⟨g, 7, none⟩ u7).cell? ⟨g, 7, none⟩ = some u7) :=
  ⟨fun u0 => (h.set8_0 u0).cell 0,
    fun u0 u1 => ((h.set8_0 u0).set8_1 u1).cell 1,
    fun u0 u1 u2 => (((h.set8_0 u0).set8_1 u1).set8_2 u2).cell 2,
    fun u0 u1 u2 u3 => ((((h.set8_0 u0).set8_1 u1).set8_2 u2).set8_3 u3).cell 3,
    fun u0 u1 u2 u3 u4 => (((((h.set8_0 u0).set8_1 u1).set8_2 u2).set8_3 u3).set8_4 u4).cell 4,
    fun u0 u1 u2 u3 u4 u5 => ((((((h.set8_0 u0).set8_1 u1).set8_2 u2).set8_3 u3).set8_4 u4).set8_5 u5).cell 5,
    fun u0 u1 u2 u3 u4 u5 u6 => (((((((h.set8_0 u0).set8_1 u1).set8_2 u2).set8_3 u3).set8_4 u4).set8_5 u5).set8_6 u6).cell 6,
    fun u0 u1 u2 u3 u4 u5 u6 u7 => ((((((((h.set8_0 u0).set8_1 u1).set8_2 u2).set8_3 u3).set8_4 u4).set8_5 u5).set8_6 u6).set8_7 u7).cell 7⟩
end
theorem EntsX.kept {w w' : World} {B g : Nat} {v : Value} {l : List En} {cs : Array Value} {t : TypeId} (h : EntsX w B v l) (hk : Blk w g t cs) (ht : t ≠ 49) (hg : w.grownBy w' (some g)) : EntsX w' B v l := by
  rcases h with h | ⟨g', h1, h2, h3, h4⟩
  · exact .inl h
  · refine .inr ⟨g', h1, h2, h3, h4.kept hg ?_⟩
    intro e
    injection e with e
    subst e
    unfold Blk at hk h4
    rw [hk] at h4
    injection h4 with h4
    injection h4 with _ h4
    exact ht h4
theorem EntsX.lower {w : World} {B B' : Nat} {v : Value} {l : List En} (h : EntsX w B v l) (hB : B' ≤ B) : EntsX w B' v l := by
  rcases h with h | ⟨g, h1, h2⟩
  · exact .inl h
  · exact .inr ⟨g, Nat.le_trans hB h1, h2⟩
theorem BytesX.lower {w : World} {B B' : Nat} {v : Value} {l : List UInt8} (h : BytesX w B v l) (hB : B' ≤ B) : BytesX w B' v l := by
  rcases h with h | ⟨g, h1, h2⟩
  · exact .inl h
  · exact .inr ⟨g, Nat.le_trans hB h1, h2⟩
theorem below_grown {w0 w w' : World} {g : Nat} (hb : Below w0.heap.size w0 w) (hg : w.grownBy w' (some g)) (h : w0.heap.size ≤ g) : Below w0.heap.size w0 w' := hb.grown hg hb.size (fun q hq => by injection hq with hq; omega)
/-- A node's cells. -/
abbrev ndC (n : Nd) (vd ve : Value) : Array Value := #[.int .i64 n.kind, .int .i64 n.mode, .int .i64 n.uid, .int .i64 n.gid, vd, ve, .string (bA n.target)]
abbrev ndZ : Array Value := #[.int .i64 0, .int .i64 0, .int .i64 0, .int .i64 0, .slice none 0 0, .slice none 0 0, .string ⟨#[]⟩]
attribute [local go_sem] cell_off4 cell_blk4
theorem slice_one (A : Option Addr) (n c : Nat) : (Value.slice A n c).oneCell' = true := rfl
theorem entsX_form {w : World} {B : Nat} {v : Value} {l : List En} (h : EntsX w B v l) : ∃ A c, v = .slice A l.length c := ents_form h.ents rfl
theorem bytesX_form {w : World} {B : Nat} {v : Value} {l : List UInt8} (h : BytesX w B v l) : ∃ A c, v = .slice A l.length c := bytes_form h.bytes rfl
set_option maxRecDepth 100000 in
set_option maxHeartbeats 4000000 in
theorem copied_any (n : Nd) (vd ve : Value) (w : World) (hd : BytesR w vd n.data) (he : EntsR w ve n.ents) (hnd : n.data.length ≤ 1000000) (hne : n.ents.length ≤ 1000000) :
    Calls Try.prog 22 #[nodeV n vd ve] w fun e w' => ∃ vd' ve', e = .returned (nodeV n vd' ve') ∧ BytesX w' w.heap.size vd' n.data ∧ EntsX w' w.heap.size ve' n.ents ∧ Below w.heap.size w w' := by
  obtain ⟨W1, hW1⟩ : ∃ W1, W1 = (w.alloc (.cells (ndC n vd ve) 25)).alloc (.cells ndZ 25) := ⟨_, rfl⟩
  have hb1 : Below w.heap.size w W1 := by rw [hW1]; exact al (ba _ _) _
  have hz1 : W1.heap.size = w.heap.size + 2 := by rw [hW1]; simp
  have hkb : Blk W1 w.heap.size 25 (ndC n vd ve) := by rw [hW1]; exact (Blk.new _ _ _).alloc _
  have hkr : Blk W1 (w.heap.size + 1) 25 ndZ := by rw [hW1]; have := Blk.new (w.alloc (.cells (ndC n vd ve) 25)) 25 ndZ; simpa using this
  have HCB := Lib.hid (copyB_any vd n.data W1 (hd.below hb1) hnd)
  have HE := Lib.hid he
  have HB1 := Lib.hid hb1
  have HKB := Lib.hid hkb
  have HKR := Lib.hid hkr
  have HZ1 := Lib.hid hz1
  obtain ⟨A1, c1, rfl⟩ := bytes_form hd rfl
  obtain ⟨A2, c2, rfl⟩ := ents_form he rfl
  clear hd he hb1 hkb hkr hz1
  subst hW1
  unfold nodeV
  go_enter Try.func22, Try.ntmps22
  go_wp2_with fail
  refine HCB.out.mono ?_
  rintro e w2 ⟨vd', rfl, hX2, hb2⟩
  obtain ⟨A3, c3, hv3⟩ := bytesX_form hX2
  subst hv3
  have HX2 := Lib.hid hX2
  have HB2 := Lib.hid hb2
  have hk2 := HKB.out.below hb2
  have HK2 := Lib.hid hk2
  obtain ⟨p0, p1, p2, p3, p4, p5, p6⟩ := hk2.c7
  obtain ⟨f0, f1, f2, f3, f4, f5, f6⟩ := hk2.f7
  have t4 : ∀ u, (w2.setCell ⟨w.heap.size, 4, none⟩ u).cell? ⟨w.heap.size, 4, none⟩ = some u := fun u => (hk2.set_ 4 u).cell 4
  clear hX2 hb2 hk2 HCB
  have HG3 := Lib.hid (grown_setCell w2 ⟨w.heap.size, 4, none⟩ (.slice A3 n.data.length c3))
  go_wp2_with fail
  have HK3 := Lib.hid (HK2.out.set7_4 (.slice A3 n.data.length c3))
  have HB3 := Lib.hid (below_grown (bt HB2.out HB1.out) HG3.out (Nat.le_refl _))
  have HX3 := Lib.hid (HX2.out.kept HK2.out (by decide) HG3.out)
  have HR3 := Lib.hid ((HKR.out.below HB2.out).kept HG3.out (by simp))
  refine (copyE_any _ n.ents _ (HE.out.below HB3.out) hne).mono ?_
  rintro e w4 ⟨ve', rfl, hX4, hb4⟩
  clear p0 p1 p2 p3 p4 p5 p6 f0 f1 f2 f3 f4 f5 f6 t4
  obtain ⟨A4, c4, hv4⟩ := entsX_form hX4
  subst hv4
  have HX4 := Lib.hid hX4
  have HY4 := Lib.hid (HX3.out.below hb4)
  have HB4 := Lib.hid (bt hb4 HB3.out)
  have hk4 := HK3.out.below hb4
  have HK4 := Lib.hid hk4
  have hr4 := HR3.out.below hb4
  have HR4 := Lib.hid hr4
  have HLE := Lib.hid (show w.heap.size ≤ (w2.setCell ⟨w.heap.size, 4, none⟩ (.slice A3 n.data.length c3)).heap.size from HB3.out.size)
  have HG5 := Lib.hid (grown_setCell w4 ⟨w.heap.size, 5, none⟩ (.slice A4 n.ents.length c4))
  have hr5 := hr4.kept HG5.out (by simp)
  have HR5 := Lib.hid hr5
  obtain ⟨p0, p1, p2, p3, p4, p5, p6⟩ := hk4.c7
  obtain ⟨f0, f1, f2, f3, f4, f5, f6⟩ := hk4.f7
  have t5 : ∀ u, (w4.setCell ⟨w.heap.size, 5, none⟩ u).cell? ⟨w.heap.size, 5, none⟩ = some u := fun u => (hk4.set7_5 u).cell 5
  obtain ⟨r0, r1, r2, r3, r4, r5, r6⟩ := hr5.c7
  obtain ⟨q0, q1, q2, q3, q4, q5, q6⟩ := hr5.f7
  obtain ⟨s0, s1, s2, s3, s4, s5, s6⟩ := hr5.s7
  clear hX4 hb4 hk4 hr4 hr5
  go_wp2
  have HG6 := Lib.hid (grown7 (w4.setCell ⟨w.heap.size, 5, none⟩ (.slice A4 n.ents.length c4)) (w.heap.size + 1) (.int .i64 n.kind) (.int .i64 n.mode) (.int .i64 n.uid) (.int .i64 n.gid) (.slice A3 n.data.length c3) (.slice A4 n.ents.length c4) (.string (bA n.target)))
  exact bodyPost_ret (v := nodeV n (.slice A3 n.data.length c3) (.slice A4 n.ents.length c4)) (by simp [results, Try.results22, go_sem, nodeV, s0, s1, s2, s3, s4, s5, s6]) rfl ⟨_, _, rfl, (((HY4.out.kept HK4.out (by decide) HG5.out).kept HR5.out (by decide) HG6.out).lower (by rw [HZ1.out]; omega)), ((HX4.out.kept HK4.out (by decide) HG5.out).kept HR5.out (by decide) HG6.out).lower HLE.out, below_grown (below_grown HB4.out HG5.out (Nat.le_refl _)) HG6.out (Nat.le_succ _)⟩
end Go.Proofs.Ytibmnafnandodaa
