/-
  What is told of nodes, as it lies in memory; few, nodeOf, rawOf. The condition: a list is no longer than a machine can hold.
-/
import Derived.Test.YtilepnepcamnaaaGreatBldR
import Derived.Test.YtilepnepcamnaaaGreatMT
namespace Go.Proofs.YtilepnepcamnaaaGreat
open Go Go.RowKit
set_option maxRecDepth 100000

attribute [local go_sem] cell_off4 cell_blk4
/-- The cells of a Raw. -/
abbrev rwC (r : Rw) (vd : Value) : Array Value := #[.int .i64 r.kind, .int .i64 r.mode, .int .i64 r.uid, .int .i64 r.gid, .int .i64 r.parent, .string (bA r.name), vd, .string (bA r.target), .int .i64 r.node]
def put9 (w : World) (g : Nat) (u0 u1 u2 u3 u4 u5 u6 u7 u8 : Value) : World := (((((((((w.setCell ⟨g, 0, none⟩ u0).setCell ⟨g, 1, none⟩ u1).setCell ⟨g, 2, none⟩ u2).setCell ⟨g, 3, none⟩ u3).setCell ⟨g, 4, none⟩ u4).setCell ⟨g, 5, none⟩ u5).setCell ⟨g, 6, none⟩ u6).setCell ⟨g, 7, none⟩ u7).setCell ⟨g, 8, none⟩ u8)
section
variable {w : World} {g : Nat} {t : TypeId} {a0 a1 a2 a3 a4 a5 a6 a7 a8 : Value}
theorem Blk.set9_0 (h : Blk w g t #[a0, a1, a2, a3, a4, a5, a6, a7, a8]) (u : Value) : Blk (w.setCell ⟨g, 0, none⟩ u) g t #[u, a1, a2, a3, a4, a5, a6, a7, a8] := by simpa using h.set_ 0 u
theorem Blk.set9_1 (h : Blk w g t #[a0, a1, a2, a3, a4, a5, a6, a7, a8]) (u : Value) : Blk (w.setCell ⟨g, 1, none⟩ u) g t #[a0, u, a2, a3, a4, a5, a6, a7, a8] := by simpa using h.set_ 1 u
theorem Blk.set9_2 (h : Blk w g t #[a0, a1, a2, a3, a4, a5, a6, a7, a8]) (u : Value) : Blk (w.setCell ⟨g, 2, none⟩ u) g t #[a0, a1, u, a3, a4, a5, a6, a7, a8] := by simpa using h.set_ 2 u
theorem Blk.set9_3 (h : Blk w g t #[a0, a1, a2, a3, a4, a5, a6, a7, a8]) (u : Value) : Blk (w.setCell ⟨g, 3, none⟩ u) g t #[a0, a1, a2, u, a4, a5, a6, a7, a8] := by simpa using h.set_ 3 u
theorem Blk.set9_4 (h : Blk w g t #[a0, a1, a2, a3, a4, a5, a6, a7, a8]) (u : Value) : Blk (w.setCell ⟨g, 4, none⟩ u) g t #[a0, a1, a2, a3, u, a5, a6, a7, a8] := by simpa using h.set_ 4 u
theorem Blk.set9_5 (h : Blk w g t #[a0, a1, a2, a3, a4, a5, a6, a7, a8]) (u : Value) : Blk (w.setCell ⟨g, 5, none⟩ u) g t #[a0, a1, a2, a3, a4, u, a6, a7, a8] := by simpa using h.set_ 5 u
theorem Blk.set9_6 (h : Blk w g t #[a0, a1, a2, a3, a4, a5, a6, a7, a8]) (u : Value) : Blk (w.setCell ⟨g, 6, none⟩ u) g t #[a0, a1, a2, a3, a4, a5, u, a7, a8] := by simpa using h.set_ 6 u
theorem Blk.set9_7 (h : Blk w g t #[a0, a1, a2, a3, a4, a5, a6, a7, a8]) (u : Value) : Blk (w.setCell ⟨g, 7, none⟩ u) g t #[a0, a1, a2, a3, a4, a5, a6, u, a8] := by simpa using h.set_ 7 u
theorem Blk.set9_8 (h : Blk w g t #[a0, a1, a2, a3, a4, a5, a6, a7, a8]) (u : Value) : Blk (w.setCell ⟨g, 8, none⟩ u) g t #[a0, a1, a2, a3, a4, a5, a6, a7, u] := by simpa using h.set_ 8 u
theorem Blk.put9 (h : Blk w g t #[a0, a1, a2, a3, a4, a5, a6, a7, a8]) (u0 u1 u2 u3 u4 u5 u6 u7 u8 : Value) : Blk (put9 w g u0 u1 u2 u3 u4 u5 u6 u7 u8) g t #[u0, u1, u2, u3, u4, u5, u6, u7, u8] := (((((((((h.set9_0 u0).set9_1 u1).set9_2 u2).set9_3 u3).set9_4 u4).set9_5 u5).set9_6 u6).set9_7 u7).set9_8 u8)
theorem Blk.c9 (h : Blk w g t #[a0, a1, a2, a3, a4, a5, a6, a7, a8]) : w.cell? ⟨g, 0, none⟩ = some a0 ∧ w.cell? ⟨g, 1, none⟩ = some a1 ∧ w.cell? ⟨g, 2, none⟩ = some a2 ∧ w.cell? ⟨g, 3, none⟩ = some a3 ∧ w.cell? ⟨g, 4, none⟩ = some a4 ∧ w.cell? ⟨g, 5, none⟩ = some a5 ∧ w.cell? ⟨g, 6, none⟩ = some a6 ∧ w.cell? ⟨g, 7, none⟩ = some a7 ∧ w.cell? ⟨g, 8, none⟩ = some a8 := ⟨h.cell 0, h.cell 1, h.cell 2, h.cell 3, h.cell 4, h.cell 5, h.cell 6, h.cell 7, h.cell 8⟩
theorem Blk.f9 (h : Blk w g t #[a0, a1, a2, a3, a4, a5, a6, a7, a8]) : w.frozen? ⟨g, 0, none⟩ = false ∧ w.frozen? ⟨g, 1, none⟩ = false ∧ w.frozen? ⟨g, 2, none⟩ = false ∧ w.frozen? ⟨g, 3, none⟩ = false ∧ w.frozen? ⟨g, 4, none⟩ = false ∧ w.frozen? ⟨g, 5, none⟩ = false ∧ w.frozen? ⟨g, 6, none⟩ = false ∧ w.frozen? ⟨g, 7, none⟩ = false ∧ w.frozen? ⟨g, 8, none⟩ = false := ⟨h.frozen 0, h.frozen 1, h.frozen 2, h.frozen 3, h.frozen 4, h.frozen 5, h.frozen 6, h.frozen 7, h.frozen 8⟩
theorem Blk.s9 (h : Blk w g t #[a0, a1, a2, a3, a4, a5, a6, a7, a8]) : (∀ u0, (w.setCell ⟨g, 0, none⟩ u0).cell? ⟨g, 0, none⟩ = some u0) ∧
    (∀ u0 u1, ((w.setCell ⟨g, 0, none⟩ u0).setCell ⟨g, 1, none⟩ u1).cell? ⟨g, 1, none⟩ = some u1) ∧
    (∀ u0 u1 u2, (((w.setCell ⟨g, 0, none⟩ u0).setCell ⟨g, 1, none⟩ u1).setCell ⟨g, 2, none⟩ u2).cell? ⟨g, 2, none⟩ = some u2) ∧
    (∀ u0 u1 u2 u3, ((((w.setCell ⟨g, 0, none⟩ u0).setCell ⟨g, 1, none⟩ u1).setCell ⟨g, 2, none⟩ u2).setCell ⟨g, 3, none⟩ u3).cell? ⟨g, 3, none⟩ = some u3) ∧
    (∀ u0 u1 u2 u3 u4, (((((w.setCell ⟨g, 0, none⟩ u0).setCell ⟨g, 1, none⟩ u1).setCell ⟨g, 2, none⟩ u2).setCell ⟨g, 3, none⟩ u3).setCell ⟨g, 4, none⟩ u4).cell? ⟨g, 4, none⟩ = some u4) ∧
    (∀ u0 u1 u2 u3 u4 u5, ((((((w.setCell ⟨g, 0, none⟩ u0).setCell ⟨g, 1, none⟩ u1).setCell ⟨g, 2, none⟩ u2).setCell ⟨g, 3, none⟩ u3).setCell ⟨g, 4, none⟩ u4).setCell ⟨g, 5, none⟩ u5).cell? ⟨g, 5, none⟩ = some u5) ∧
    (∀ u0 u1 u2 u3 u4 u5 u6, (((((((w.setCell ⟨g, 0, none⟩ u0).setCell ⟨g, 1, none⟩ u1).setCell ⟨g, 2, none⟩ u2).setCell ⟨g, 3, none⟩ u3).setCell ⟨g, 4, none⟩ u4).setCell ⟨g, 5, none⟩ u5).setCell ⟨g, 6, none⟩ u6).cell? ⟨g, 6, none⟩ = some u6) ∧
    (∀ u0 u1 u2 u3 u4 u5 u6 u7, ((((((((w.setCell ⟨g, 0, none⟩ u0).setCell ⟨g, 1, none⟩ u1).setCell ⟨g, 2, none⟩ u2).setCell ⟨g, 3, none⟩ u3).setCell ⟨g, 4, none⟩ u4).setCell ⟨g, 5, none⟩ u5).setCell ⟨g, 6, none⟩ u6).setCell ⟨g, 7, none⟩ u7).cell? ⟨g, 7, none⟩ = some u7) ∧
    (∀ u0 u1 u2 u3 u4 u5 u6 u7 u8, (((((((((w.setCell ⟨g, 0, none⟩ u0).setCell ⟨g, 1, none⟩ u1).setCell ⟨g, 2, none⟩ u2).setCell ⟨g, 3, none⟩ u3).setCell ⟨g, 4, none⟩ u4).setCell ⟨g, 5, none⟩ u5).setCell ⟨g, 6, none⟩ u6).setCell ⟨g, 7, none⟩ u7).setCell ⟨g, 8, none⟩ u8).cell? ⟨g, 8, none⟩ = some u8) :=
  ⟨fun u0 => (h.set9_0 u0).cell 0,
    fun u0 u1 => ((h.set9_0 u0).set9_1 u1).cell 1,
    fun u0 u1 u2 => (((h.set9_0 u0).set9_1 u1).set9_2 u2).cell 2,
    fun u0 u1 u2 u3 => ((((h.set9_0 u0).set9_1 u1).set9_2 u2).set9_3 u3).cell 3,
    fun u0 u1 u2 u3 u4 => (((((h.set9_0 u0).set9_1 u1).set9_2 u2).set9_3 u3).set9_4 u4).cell 4,
    fun u0 u1 u2 u3 u4 u5 => ((((((h.set9_0 u0).set9_1 u1).set9_2 u2).set9_3 u3).set9_4 u4).set9_5 u5).cell 5,
    fun u0 u1 u2 u3 u4 u5 u6 => (((((((h.set9_0 u0).set9_1 u1).set9_2 u2).set9_3 u3).set9_4 u4).set9_5 u5).set9_6 u6).cell 6,
    fun u0 u1 u2 u3 u4 u5 u6 u7 => ((((((((h.set9_0 u0).set9_1 u1).set9_2 u2).set9_3 u3).set9_4 u4).set9_5 u5).set9_6 u6).set9_7 u7).cell 7,
    fun u0 u1 u2 u3 u4 u5 u6 u7 u8 => (((((((((h.set9_0 u0).set9_1 u1).set9_2 u2).set9_3 u3).set9_4 u4).set9_5 u5).set9_6 u6).set9_7 u7).set9_8 u8).cell 8⟩
end
theorem grown9 (w : World) (g : Nat) (u0 u1 u2 u3 u4 u5 u6 u7 u8 : Value) : w.grownBy (put9 w g u0 u1 u2 u3 u4 u5 u6 u7 u8) (some g) := by
  have h := fun (W : World) (i : Nat) (u : Value) => grown_setCell W ⟨g, i, none⟩ u
  exact (grown_trans (grown_trans (grown_trans (grown_trans (grown_trans (grown_trans (grown_trans (grown_trans (h _ _ _) (h _ _ _)) (h _ _ _)) (h _ _ _)) (h _ _ _)) (h _ _ _)) (h _ _ _)) (h _ _ _)) (h _ _ _))
def put11 (w : World) (g : Nat) (u0 u1 u2 u3 u4 u5 u6 u7 u8 u9 u10 : Value) : World := (((((((((((w.setCell ⟨g, 0, none⟩ u0).setCell ⟨g, 1, none⟩ u1).setCell ⟨g, 2, none⟩ u2).setCell ⟨g, 3, none⟩ u3).setCell ⟨g, 4, none⟩ u4).setCell ⟨g, 5, none⟩ u5).setCell ⟨g, 6, none⟩ u6).setCell ⟨g, 7, none⟩ u7).setCell ⟨g, 8, none⟩ u8).setCell ⟨g, 9, none⟩ u9).setCell ⟨g, 10, none⟩ u10)
section
variable {w : World} {g : Nat} {t : TypeId} {a0 a1 a2 a3 a4 a5 a6 a7 a8 a9 a10 : Value}
theorem Blk.set11_0 (h : Blk w g t #[a0, a1, a2, a3, a4, a5, a6, a7, a8, a9, a10]) (u : Value) : Blk (w.setCell ⟨g, 0, none⟩ u) g t #[u, a1, a2, a3, a4, a5, a6, a7, a8, a9, a10] := by simpa using h.set_ 0 u
theorem Blk.set11_1 (h : Blk w g t #[a0, a1, a2, a3, a4, a5, a6, a7, a8, a9, a10]) (u : Value) : Blk (w.setCell ⟨g, 1, none⟩ u) g t #[a0, u, a2, a3, a4, a5, a6, a7, a8, a9, a10] := by simpa using h.set_ 1 u
theorem Blk.set11_2 (h : Blk w g t #[a0, a1, a2, a3, a4, a5, a6, a7, a8, a9, a10]) (u : Value) : Blk (w.setCell ⟨g, 2, none⟩ u) g t #[a0, a1, u, a3, a4, a5, a6, a7, a8, a9, a10] := by simpa using h.set_ 2 u
theorem Blk.set11_3 (h : Blk w g t #[a0, a1, a2, a3, a4, a5, a6, a7, a8, a9, a10]) (u : Value) : Blk (w.setCell ⟨g, 3, none⟩ u) g t #[a0, a1, a2, u, a4, a5, a6, a7, a8, a9, a10] := by simpa using h.set_ 3 u
theorem Blk.set11_4 (h : Blk w g t #[a0, a1, a2, a3, a4, a5, a6, a7, a8, a9, a10]) (u : Value) : Blk (w.setCell ⟨g, 4, none⟩ u) g t #[a0, a1, a2, a3, u, a5, a6, a7, a8, a9, a10] := by simpa using h.set_ 4 u
theorem Blk.set11_5 (h : Blk w g t #[a0, a1, a2, a3, a4, a5, a6, a7, a8, a9, a10]) (u : Value) : Blk (w.setCell ⟨g, 5, none⟩ u) g t #[a0, a1, a2, a3, a4, u, a6, a7, a8, a9, a10] := by simpa using h.set_ 5 u
theorem Blk.set11_6 (h : Blk w g t #[a0, a1, a2, a3, a4, a5, a6, a7, a8, a9, a10]) (u : Value) : Blk (w.setCell ⟨g, 6, none⟩ u) g t #[a0, a1, a2, a3, a4, a5, u, a7, a8, a9, a10] := by simpa using h.set_ 6 u
theorem Blk.set11_7 (h : Blk w g t #[a0, a1, a2, a3, a4, a5, a6, a7, a8, a9, a10]) (u : Value) : Blk (w.setCell ⟨g, 7, none⟩ u) g t #[a0, a1, a2, a3, a4, a5, a6, u, a8, a9, a10] := by simpa using h.set_ 7 u
theorem Blk.set11_8 (h : Blk w g t #[a0, a1, a2, a3, a4, a5, a6, a7, a8, a9, a10]) (u : Value) : Blk (w.setCell ⟨g, 8, none⟩ u) g t #[a0, a1, a2, a3, a4, a5, a6, a7, u, a9, a10] := by simpa using h.set_ 8 u
theorem Blk.set11_9 (h : Blk w g t #[a0, a1, a2, a3, a4, a5, a6, a7, a8, a9, a10]) (u : Value) : Blk (w.setCell ⟨g, 9, none⟩ u) g t #[a0, a1, a2, a3, a4, a5, a6, a7, a8, u, a10] := by simpa using h.set_ 9 u
theorem Blk.set11_10 (h : Blk w g t #[a0, a1, a2, a3, a4, a5, a6, a7, a8, a9, a10]) (u : Value) : Blk (w.setCell ⟨g, 10, none⟩ u) g t #[a0, a1, a2, a3, a4, a5, a6, a7, a8, a9, u] := by simpa using h.set_ 10 u
theorem Blk.put11 (h : Blk w g t #[a0, a1, a2, a3, a4, a5, a6, a7, a8, a9, a10]) (u0 u1 u2 u3 u4 u5 u6 u7 u8 u9 u10 : Value) : Blk (put11 w g u0 u1 u2 u3 u4 u5 u6 u7 u8 u9 u10) g t #[u0, u1, u2, u3, u4, u5, u6, u7, u8, u9, u10] := (((((((((((h.set11_0 u0).set11_1 u1).set11_2 u2).set11_3 u3).set11_4 u4).set11_5 u5).set11_6 u6).set11_7 u7).set11_8 u8).set11_9 u9).set11_10 u10)
theorem Blk.c11 (h : Blk w g t #[a0, a1, a2, a3, a4, a5, a6, a7, a8, a9, a10]) : w.cell? ⟨g, 0, none⟩ = some a0 ∧ w.cell? ⟨g, 1, none⟩ = some a1 ∧ w.cell? ⟨g, 2, none⟩ = some a2 ∧ w.cell? ⟨g, 3, none⟩ = some a3 ∧ w.cell? ⟨g, 4, none⟩ = some a4 ∧ w.cell? ⟨g, 5, none⟩ = some a5 ∧ w.cell? ⟨g, 6, none⟩ = some a6 ∧ w.cell? ⟨g, 7, none⟩ = some a7 ∧ w.cell? ⟨g, 8, none⟩ = some a8 ∧ w.cell? ⟨g, 9, none⟩ = some a9 ∧ w.cell? ⟨g, 10, none⟩ = some a10 := ⟨h.cell 0, h.cell 1, h.cell 2, h.cell 3, h.cell 4, h.cell 5, h.cell 6, h.cell 7, h.cell 8, h.cell 9, h.cell 10⟩
theorem Blk.f11 (h : Blk w g t #[a0, a1, a2, a3, a4, a5, a6, a7, a8, a9, a10]) : w.frozen? ⟨g, 0, none⟩ = false ∧ w.frozen? ⟨g, 1, none⟩ = false ∧ w.frozen? ⟨g, 2, none⟩ = false ∧ w.frozen? ⟨g, 3, none⟩ = false ∧ w.frozen? ⟨g, 4, none⟩ = false ∧ w.frozen? ⟨g, 5, none⟩ = false ∧ w.frozen? ⟨g, 6, none⟩ = false ∧ w.frozen? ⟨g, 7, none⟩ = false ∧ w.frozen? ⟨g, 8, none⟩ = false ∧ w.frozen? ⟨g, 9, none⟩ = false ∧ w.frozen? ⟨g, 10, none⟩ = false := ⟨h.frozen 0, h.frozen 1, h.frozen 2, h.frozen 3, h.frozen 4, h.frozen 5, h.frozen 6, h.frozen 7, h.frozen 8, h.frozen 9, h.frozen 10⟩
theorem Blk.s11 (h : Blk w g t #[a0, a1, a2, a3, a4, a5, a6, a7, a8, a9, a10]) : (∀ u0, (w.setCell ⟨g, 0, none⟩ u0).cell? ⟨g, 0, none⟩ = some u0) ∧
    (∀ u0 u1, ((w.setCell ⟨g, 0, none⟩ u0).setCell ⟨g, 1, none⟩ u1).cell? ⟨g, 1, none⟩ = some u1) ∧
    (∀ u0 u1 u2, (((w.setCell ⟨g, 0, none⟩ u0).setCell ⟨g, 1, none⟩ u1).setCell ⟨g, 2, none⟩ u2).cell? ⟨g, 2, none⟩ = some u2) ∧
    (∀ u0 u1 u2 u3, ((((w.setCell ⟨g, 0, none⟩ u0).setCell ⟨g, 1, none⟩ u1).setCell ⟨g, 2, none⟩ u2).setCell ⟨g, 3, none⟩ u3).cell? ⟨g, 3, none⟩ = some u3) ∧
    (∀ u0 u1 u2 u3 u4, (((((w.setCell ⟨g, 0, none⟩ u0).setCell ⟨g, 1, none⟩ u1).setCell ⟨g, 2, none⟩ u2).setCell ⟨g, 3, none⟩ u3).setCell ⟨g, 4, none⟩ u4).cell? ⟨g, 4, none⟩ = some u4) ∧
    (∀ u0 u1 u2 u3 u4 u5, ((((((w.setCell ⟨g, 0, none⟩ u0).setCell ⟨g, 1, none⟩ u1).setCell ⟨g, 2, none⟩ u2).setCell ⟨g, 3, none⟩ u3).setCell ⟨g, 4, none⟩ u4).setCell ⟨g, 5, none⟩ u5).cell? ⟨g, 5, none⟩ = some u5) ∧
    (∀ u0 u1 u2 u3 u4 u5 u6, (((((((w.setCell ⟨g, 0, none⟩ u0).setCell ⟨g, 1, none⟩ u1).setCell ⟨g, 2, none⟩ u2).setCell ⟨g, 3, none⟩ u3).setCell ⟨g, 4, none⟩ u4).setCell ⟨g, 5, none⟩ u5).setCell ⟨g, 6, none⟩ u6).cell? ⟨g, 6, none⟩ = some u6) ∧
    (∀ u0 u1 u2 u3 u4 u5 u6 u7, ((((((((w.setCell ⟨g, 0, none⟩ u0).setCell ⟨g, 1, none⟩ u1).setCell ⟨g, 2, none⟩ u2).setCell ⟨g, 3, none⟩ u3).setCell ⟨g, 4, none⟩ u4).setCell ⟨g, 5, none⟩ u5).setCell ⟨g, 6, none⟩ u6).setCell ⟨g, 7, none⟩ u7).cell? ⟨g, 7, none⟩ = some u7) ∧
    (∀ u0 u1 u2 u3 u4 u5 u6 u7 u8, (((((((((w.setCell ⟨g, 0, none⟩ u0).setCell ⟨g, 1, none⟩ u1).setCell ⟨g, 2, none⟩ u2).setCell ⟨g, 3, none⟩ u3).setCell ⟨g, 4, none⟩ u4).setCell ⟨g, 5, none⟩ u5).setCell ⟨g, 6, none⟩ u6).setCell ⟨g, 7, none⟩ u7).setCell ⟨g, 8, none⟩ u8).cell? ⟨g, 8, none⟩ = some u8) ∧
    (∀ u0 u1 u2 u3 u4 u5 u6 u7 u8 u9, ((((((((((w.setCell ⟨g, 0, none⟩ u0).setCell ⟨g, 1, none⟩ u1).setCell ⟨g, 2, none⟩ u2).setCell ⟨g, 3, none⟩ u3).setCell ⟨g, 4, none⟩ u4).setCell ⟨g, 5, none⟩ u5).setCell ⟨g, 6, none⟩ u6).setCell ⟨g, 7, none⟩ u7).setCell ⟨g, 8, none⟩ u8).setCell ⟨g, 9, none⟩ u9).cell? ⟨g, 9, none⟩ = some u9) ∧
    (∀ u0 u1 u2 u3 u4 u5 u6 u7 u8 u9 u10, (((((((((((w.setCell ⟨g, 0, none⟩ u0).setCell ⟨g, 1, none⟩ u1).setCell ⟨g, 2, none⟩ u2).setCell ⟨g, 3, none⟩ u3).setCell ⟨g, 4, none⟩ u4).setCell ⟨g, 5, none⟩ u5).setCell ⟨g, 6, none⟩ u6).setCell ⟨g, 7, none⟩ u7).setCell ⟨g, 8, none⟩ u8).setCell ⟨g, 9, none⟩ u9).setCell ⟨g, 10, none⟩ u10).cell? ⟨g, 10, none⟩ = some u10) :=
  ⟨fun u0 => (h.set11_0 u0).cell 0,
    fun u0 u1 => ((h.set11_0 u0).set11_1 u1).cell 1,
    fun u0 u1 u2 => (((h.set11_0 u0).set11_1 u1).set11_2 u2).cell 2,
    fun u0 u1 u2 u3 => ((((h.set11_0 u0).set11_1 u1).set11_2 u2).set11_3 u3).cell 3,
    fun u0 u1 u2 u3 u4 => (((((h.set11_0 u0).set11_1 u1).set11_2 u2).set11_3 u3).set11_4 u4).cell 4,
    fun u0 u1 u2 u3 u4 u5 => ((((((h.set11_0 u0).set11_1 u1).set11_2 u2).set11_3 u3).set11_4 u4).set11_5 u5).cell 5,
    fun u0 u1 u2 u3 u4 u5 u6 => (((((((h.set11_0 u0).set11_1 u1).set11_2 u2).set11_3 u3).set11_4 u4).set11_5 u5).set11_6 u6).cell 6,
    fun u0 u1 u2 u3 u4 u5 u6 u7 => ((((((((h.set11_0 u0).set11_1 u1).set11_2 u2).set11_3 u3).set11_4 u4).set11_5 u5).set11_6 u6).set11_7 u7).cell 7,
    fun u0 u1 u2 u3 u4 u5 u6 u7 u8 => (((((((((h.set11_0 u0).set11_1 u1).set11_2 u2).set11_3 u3).set11_4 u4).set11_5 u5).set11_6 u6).set11_7 u7).set11_8 u8).cell 8,
    fun u0 u1 u2 u3 u4 u5 u6 u7 u8 u9 => ((((((((((h.set11_0 u0).set11_1 u1).set11_2 u2).set11_3 u3).set11_4 u4).set11_5 u5).set11_6 u6).set11_7 u7).set11_8 u8).set11_9 u9).cell 9,
    fun u0 u1 u2 u3 u4 u5 u6 u7 u8 u9 u10 => (((((((((((h.set11_0 u0).set11_1 u1).set11_2 u2).set11_3 u3).set11_4 u4).set11_5 u5).set11_6 u6).set11_7 u7).set11_8 u8).set11_9 u9).set11_10 u10).cell 10⟩
end
theorem grown11 (w : World) (g : Nat) (u0 u1 u2 u3 u4 u5 u6 u7 u8 u9 u10 : Value) : w.grownBy (put11 w g u0 u1 u2 u3 u4 u5 u6 u7 u8 u9 u10) (some g) := by
  have h := fun (W : World) (i : Nat) (u : Value) => grown_setCell W ⟨g, i, none⟩ u
  exact (grown_trans (grown_trans (grown_trans (grown_trans (grown_trans (grown_trans (grown_trans (grown_trans (grown_trans (grown_trans (h _ _ _) (h _ _ _)) (h _ _ _)) (h _ _ _)) (h _ _ _)) (h _ _ _)) (h _ _ _)) (h _ _ _)) (h _ _ _)) (h _ _ _)) (h _ _ _))

/-- A Raw in cells side by side, from an address on; the first cell stands apart. -/
structure AtW (w : World) (b o : Nat) (r : Rw) (vd : Value) : Prop where
  c1 : w.cell? ⟨b, o + 1, none⟩ = some (.int .i64 r.mode)
  c2 : w.cell? ⟨b, o + 2, none⟩ = some (.int .i64 r.uid)
  c3 : w.cell? ⟨b, o + 3, none⟩ = some (.int .i64 r.gid)
  c4 : w.cell? ⟨b, o + 4, none⟩ = some (.int .i64 r.parent)
  c5 : w.cell? ⟨b, o + 5, none⟩ = some (.string (bA r.name))
  c6 : w.cell? ⟨b, o + 6, none⟩ = some vd
  c7 : w.cell? ⟨b, o + 7, none⟩ = some (.string (bA r.target))
  c8 : w.cell? ⟨b, o + 8, none⟩ = some (.int .i64 r.node)
theorem AtW.below {w w' : World} {b o : Nat} {r : Rw} {vd : Value} (h : AtW w b o r vd) (hb : Below w.heap.size w w') : AtW w' b o r vd :=
  ⟨bc hb h.c1, bc hb h.c2, bc hb h.c3, bc hb h.c4, bc hb h.c5, bc hb h.c6, bc hb h.c7, bc hb h.c8⟩
/-- A slice that reads as what is told. -/
def RawsR (w : World) (v : Value) (l : List Rw) : Prop := ∃ A c, v = .slice A l.length c ∧ ∀ (k : Nat) (r : Rw), l[k]? = some r → ∃ (ad : Addr) (vd : Value), A = some ad ∧
  w.cell? (ad.add (k * 9)) = some (.int .i64 r.kind) ∧ AtW w (ad.add (k * 9)).block (ad.add (k * 9)).off r vd ∧ BytesR w vd r.data
theorem RawsR.below {w w' : World} {v : Value} {l : List Rw} (h : RawsR w v l) (hb : Below w.heap.size w w') : RawsR w' v l := by
  obtain ⟨A, c, hv, hc⟩ := h
  refine ⟨A, c, hv, fun k r hk => ?_⟩
  obtain ⟨ad, vd, hA, h0, h1, h2⟩ := hc k r hk
  exact ⟨ad, vd, hA, bc hb h0, h1.below hb, h2.below hb⟩
theorem RawsR.nil (w : World) : RawsR w (.slice none 0 0) [] := ⟨none, 0, rfl, fun k r h => by simp at h⟩
theorem raws_form {w : World} {v : Value} {l : List Rw} (h : RawsR w v l) : ∃ A c, v = .slice A l.length c := by
  obtain ⟨A, c, rfl, -⟩ := h
  exact ⟨A, c, rfl⟩
theorem raws_get {w : World} {A : Option Addr} {n c : Nat} {l : List Rw} (h : RawsR w (.slice A n c) l) {k : Nat} {r : Rw} (hk : l[k]? = some r) : ∃ (ad : Addr) (vd : Value), A = some ad ∧
    w.cell? (ad.add (k * 9)) = some (.int .i64 r.kind) ∧ AtW w (ad.add (k * 9)).block (ad.add (k * 9)).off r vd ∧ BytesR w vd r.data := by
  obtain ⟨A', c', hv, hc⟩ := h
  injection hv with hA
  subst hA
  exact hc k r hk
/-- The beginning of what is told. -/
theorem RawsR.take {w : World} {A : Option Addr} {n c : Nat} {l : List Rw} (h : RawsR w (.slice A n c) l) (k : Nat) (hk : k ≤ l.length) (c' : Nat) : RawsR w (.slice A k c') (l.take k) := by
  obtain ⟨A', c1, hv, hc⟩ := h
  injection hv with hA
  subst hA
  refine ⟨A, c', by rw [List.length_take, Nat.min_eq_left hk], fun j r hj => hc j r ?_⟩
  rw [List.getElem?_take] at hj
  split at hj
  · exact hj
  · cases hj
/-- Is one that is told small? -/
def shortR (r : Rw) : Prop := r.name.length ≤ 40 ∧ r.data.length ≤ 100 ∧ r.target.length ≤ 100
def fewR (l : List Rw) : Prop := (∀ r ∈ l, shortR r) ∧ l.length ≤ 50
theorem shortR.few {r : Rw} (h : shortR r) : Few r.nd := ⟨by have := h.2.1; show r.data.length ≤ _; omega, Nat.zero_le _, (fun e he => by cases he), by have := h.2.2; show r.target.length ≤ _; omega⟩
abbrev rwZ : Array Value := #[.int .i64 0, .int .i64 0, .int .i64 0, .int .i64 0, .int .i64 0, .string ⟨#[]⟩, .slice none 0 0, .string ⟨#[]⟩, .int .i64 0]
set_option maxHeartbeats 4000000 in
theorem nodeOf_any (r : Rw) (A : Option Addr) (n c : Nat) (w : World) :
    Calls Tryz.prog 70 #[.agg (rwC r (.slice A n c))] w fun e w' => e = .returned (nodeV r.nd (.slice A n c) (.slice none 0 0)) ∧ Below w.heap.size w w' := by
  obtain ⟨W1, hW1⟩ : ∃ W1, W1 = (w.alloc (.cells (rwC r (.slice A n c)) 65)).alloc (.cells ndZ 70) := ⟨_, rfl⟩
  have hb1 : Below w.heap.size w W1 := by rw [hW1]; exact al (ba _ _) _
  have hkb : Blk W1 w.heap.size 65 (rwC r (.slice A n c)) := by rw [hW1]; exact (Blk.new _ _ _).alloc _
  have hkr : Blk W1 (w.heap.size + 1) 70 ndZ := by rw [hW1]; have := Blk.new (w.alloc (.cells (rwC r (.slice A n c)) 65)) 70 ndZ; simpa using this
  have HB := Lib.hid (below_grown hb1 (grown7 W1 (w.heap.size + 1) (.int .i64 r.kind) (.int .i64 r.mode) (.int .i64 r.uid) (.int .i64 r.gid) (.slice A n c) (.slice none 0 0) (.string (bA r.target))) (Nat.le_succ _))
  obtain ⟨p0, p1, p2, p3, p4, p5, p6, p7, p8⟩ := hkb.c9
  obtain ⟨f0, f1, f2, f3, f4, f5, f6⟩ := hkr.f7
  obtain ⟨r0, r1, r2, r3, r4, r5, r6⟩ := hkr.c7
  obtain ⟨s0, s1, s2, s3, s4, s5, s6⟩ := hkr.s7
  clear hb1 hkb hkr
  have hW2 := hW1.symm
  clear hW1
  go_enter Tryz.func70, Tryz.ntmps70
  go_wp2
  exact bodyPost_ret (v := nodeV r.nd (.slice A n c) (.slice none 0 0)) (by simp [results, Tryz.results70, go_sem, nodeV, Rw.nd, s0, s1, s2, s3, s4, s5, s6]) rfl ⟨rfl, HB.out⟩
end Go.Proofs.YtilepnepcamnaaaGreat
