/-
  The calls of package build. The conditions are said at each.
-/
import Derived.Test.YtfopnfgfoicidaaGreatBM
import Derived.Test.YtfopnfgfoicidaaGreatBT
import Derived.Test.YtfopnfgfoicidaaGreatWB
import Derived.Deep.RegionHeld3
import Derived.Deep.RegionWith
namespace Go.Proofs.YtfopnfgfoicidaaGreat
open Go Go.RowKit
set_option maxRecDepth 100000

attribute [local go_sem] cell_off4 cell_blk4
/-- The cells of a Raw. -/
abbrev rwC (r : Rw) (vd : Value) : Array Value := #[.int .i64 r.kind, .int .i64 r.mode, .int .i64 r.uid, .int .i64 r.gid, .int .i64 r.parent, .string (bA r.name), vd, .string (bA r.target), .int .i64 r.node]
def put9 (w : World) (g : Nat) (u0 u1 u2 u3 u4 u5 u6 u7 u8 : Value) : World := (((((((((w.setCell ⟨g, 0, none⟩ u0).setCell ⟨g, 1, none⟩ u1).setCell ⟨g, 2, none⟩ u2).setCell ⟨g, 3, none⟩ u3).setCell ⟨g, 4, none⟩ u4).setCell ⟨g, 5, none⟩ u5).setCell ⟨g, 6, none⟩ u6).setCell ⟨g, 7, none⟩ u7).setCell ⟨g, 8, none⟩ u8)
section
variable {w : World} {g : Nat} {t : TypeId} {a0 a1 a2 a3 a4 a5 a6 a7 a8 : Value}
theorem Blk.set9_0 (h : Blk w g t #[a0, a1, a2, a3, a4, a5, a6, a7, a8]) (u : Value) : Blk (w.setCell ⟨g, 0, none⟩ u) g t #[u, a1, a2, a3, a4, a5, a6, a7, a8] := by simpa using h.set_ 0 u
theorem Blk.set9_1 (h : Blk w g t #[a0, a1, a2, a3, a4, a5, a6, a7, a8]) (u : Value) : Blk (w.setCell ⟨g, 1, none⟩ u) g t #[a0, u, a2, a3, a4, a5, a6, a7, a8] := by simpa using h.set_ 1 u
theorem Blk.set9_2 (h : Blk w g t #[a0, a1, a2, a3, a4, a5, a6, a7, a8]) (u : Value) : Blk (w.setCell ⟨g, 2, none⟩ u) g t #[a0, a1, u, a3, a4, a5, a6, a7, a8] := by simpa using h.set_ 2 u
theorem Blk.set9_3 (h : Blk w g t #[a0, a1, a2, a3, a4, a5, a6, a7, a8]) (u : Value) : Blk (w.setCell ⟨g, 3, none⟩ u) g t #[a0, a1, a2, u, a4, a5, a6, a7, a8] := by simpa using h.set_ 3 u
theorem Blk.set9_4 (h : Blk w g t #[a0, a1, a2, a3, a4, a5, a6, a7, a8]) (u : Value) : Blk (w.setCell ⟨g, 4, none⟩ u) g t #[a0, a1, a2, a3, u, a5, a6, a7, a8] := by simpa using h.set_ 4 u
theorem Blk.set9_5 (h : Blk w g t #[a0, a1, a2, a3, a4, a5, a6, a7, a8]) (u : Value) : Blk (w.setCell ⟨g, 5, none⟩ u) g t #[a0, a1, a2, a3, a4, u, a6, a7, a8] := by simpa using h.set_ 5 u
theorem Blk.set9_6 (h : Blk w g t #[a0, a1, a2, a3, a4, a5, a6, a7, a8]) (u : Value) : Blk (w.setCell ⟨g, 6, none⟩ u) g t #[a0, a1, a2, a3, a4, a5, u, a7, a8] := by simpa using h.set_ 6 u
theorem Blk.set9_7 (h : Blk w g t #[a0, a1, a2, a3, a4, a5, a6, a7, a8]) (u : Value) : Blk (w.setCell ⟨g, 7, none⟩ u) g t #[a0, a1, a2, a3, a4, a5, a6, u, a8] := by simpa using h.set_ 7 u
theorem Blk.set9_8 (h : Blk w g t #[a0, a1, a2, a3, a4, a5, a6, a7, a8]) (u : Value) : Blk (w.setCell ⟨g, 8, none⟩ u) g t #[a0, a1, a2, a3, a4, a5, a6, a7, u] := by simpa using h.set_ 8 u
theorem Blk.put9 (h : Blk w g t #[a0, a1, a2, a3, a4, a5, a6, a7, a8]) (u0 u1 u2 u3 u4 u5 u6 u7 u8 : Value) : Blk (put9 w g u0 u1 u2 u3 u4 u5 u6 u7 u8) g t #[u0, u1, u2, u3, u4, u5, u6, u7, u8] := (((((((((h.set9_0 u0).set9_1 u1).set9_2 u2).set9_3 u3).set9_4 u4).set9_5 u5).set9_6 u6).set9_7 u7).set9_8 u8)
theorem Blk.c9 (h : Blk w g t #[a0, a1, a2, a3, a4, a5, a6, a7, a8]) : w.cell? ⟨g, 0, none⟩ = some a0 ∧ w.cell? ⟨g, 1, none⟩ = some a1 ∧ w.cell? ⟨g, 2, none⟩ = some a2 ∧ w.cell? ⟨g, 3, none⟩ = some a3 ∧ w.cell? ⟨g, 4, none⟩ = some a4 ∧ w.cell? ⟨g, 5, none⟩ = some a5 ∧ w.cell? ⟨g, 6, none⟩ = some a6 ∧ w.cell? ⟨g, 7, none⟩ = some a7 ∧ w.cell? ⟨g, 8, none⟩ = some a8 := ⟨h.cell 0, h.cell 1, h.cell 2, h.cell 3, h.cell 4, h.cell 5, h.cell 6, h.cell 7, h.cell 8⟩
theorem Blk.f9 (h : Blk w g t #[a0, a1, a2, a3, a4, a5, a6, a7, a8]) : w.frozen? ⟨g, 0, none⟩ = false ∧ w.frozen? ⟨g, 1, none⟩ = false ∧ w.frozen? ⟨g, 2, none⟩ = false ∧ w.frozen? ⟨g, 3, none⟩ = false ∧ w.frozen? ⟨g, 4, none⟩ = false ∧ w.frozen? ⟨g, 5, none⟩ = false ∧ w.frozen? ⟨g, 6, none⟩ = false ∧ w.frozen? ⟨g, 7, none⟩ = false ∧ w.frozen? ⟨g, 8, none⟩ = false := ⟨h.frozen 0, h.frozen 1, h.frozen 2, h.frozen 3, h.frozen 4, h.frozen 5, h.frozen 6, h.frozen 7, h.frozen 8⟩
theorem Blk.s9 (h : Blk w g t #[a0, a1, a2, a3, a4, a5, a6, a7, a8]) : (∀ u0, (w.setCell ⟨g, 0, none⟩ u0).cell? ⟨g, 0, none⟩ = some u0) ∧
    (∀ u0 u1, ((w.setCell ⟨g, 0, none⟩ u0).setCell ⟨g, 1, none⟩ u1).cell? ⟨g, 1, none⟩ = some u1) ∧
    (∀ u0 u1 u2, (((w.setCell ⟨g, 0, none⟩ u0).setCell ⟨g, 1, none⟩ u1).setCell ⟨g, 2, none⟩ u2).cell? ⟨g, 2, none⟩ = some u2) ∧
    (∀ u0 u1 u2 u3, ((((w.setCell ⟨g, 0, none⟩ u0).setCell ⟨g, 1, none⟩ u1).setCell ⟨g, 2, none⟩ u2).setCell ⟨g, 3, none⟩ u3).cell? ⟨g, 3, none⟩ = some u3) ∧
    (∀ u0 u1 u2 u3 u4, (((((w.setCell ⟨g, 0, none⟩ u0).setCell ⟨g, 1, none⟩ u1).setCell ⟨g, 2, none⟩ u2).setCell ⟨g, 3, none⟩ u3).setCell ⟨g, 4, none⟩ u4).cell? ⟨g, 4, none⟩ = some u4) ∧
    (∀ u0 u1 u2 u3 u4 u5, ((((((w.setCell ⟨g, 0, none⟩ u0).setCell ⟨g, 1, none⟩ u1).setCell ⟨g, 2, none⟩ u2).setCell ⟨g, 3, none⟩ u3).setCell ⟨g, 4, none⟩ u4).setCell ⟨g, 5, none⟩ u5).cell? ⟨g, 5, none⟩ = some u5) ∧
    (∀ u0 u1 u2 u3 u4 u5 u6, (((((((w.setCell ⟨g, 0, none⟩ u0).setCell ⟨g, 1, none⟩ u1).setCell ⟨g, 2, none⟩ u2).setCell ⟨g, 3, none⟩ u3).setCell ⟨g, 4, none⟩ u4).setCell ⟨g, 5, none⟩ u5).setCell ⟨g, 6, none⟩ u6).cell? ⟨g, 6, none⟩ = some u6) ∧
    (∀ u0 u1 u2 u3 u4 u5 u6 u7, ((((((((w.setCell ⟨g, 0, none⟩ u0).setCell ⟨g, 1, none⟩ u1).setCell ⟨g, 2, none⟩ u2).setCell ⟨g, 3, none⟩ u3).setCell ⟨g, 4, none⟩ u4).setCell ⟨g, 5, none⟩ u5).setCell ⟨g, 6, none⟩ u6).setCell ⟨g, 7, none⟩ u7).cell? ⟨g, 7, none⟩ = some u7) ∧
    (∀ u0 u1 u2 u3 u4 u5 u6 u7 u8, (((((((((w.setCell ⟨g, 0, none⟩ u0).setCell ⟨g, 1, none⟩ u1).setCell ⟨g, 2, none⟩ u2).setCell ⟨g, 3, none⟩ u3).setCell ⟨g, 4, none⟩ u4).setCell ⟨g, 5, none⟩ u5).setCell ⟨g, 6, none⟩ u6).setCell ⟨g, 7, none⟩ u7).setCell ⟨g, 8, none⟩ u8).cell? ⟨g, 8, none⟩ = some u8) :=
  ⟨fun u0 => (h.set9_0 u0).cell 0,
    fun u0 u1 => ((h.set9_0 u0).set9_1 u1).cell 1,
    fun u0 u1 u2 => (((h.set9_0 u0).set9_1 u1).set9_2 u2).cell 2,
    fun u0 u1 u2 u3 => ((((h.set9_0 u0).set9_1 u1).set9_2 u2).set9_3 u3).cell 3,
    fun u0 u1 u2 u3 u4 => (((((h.set9_0 u0).set9_1 u1).set9_2 u2).set9_3 u3).set9_4 u4).cell 4,
    fun u0 u1 u2 u3 u4 u5 => ((((((h.set9_0 u0).set9_1 u1).set9_2 u2).set9_3 u3).set9_4 u4).set9_5 u5).cell 5,
    fun u0 u1 u2 u3 u4 u5 u6 => (((((((h.set9_0 u0).set9_1 u1).set9_2 u2).set9_3 u3).set9_4 u4).set9_5 u5).set9_6 u6).cell 6,
    fun u0 u1 u2 u3 u4 u5 u6 u7 => ((((((((h.set9_0 u0).set9_1 u1).set9_2 u2).set9_3 u3).set9_4 u4).set9_5 u5).set9_6 u6).set9_7 u7).cell 7,
    fun u0 u1 u2 u3 u4 u5 u6 u7 u8 => (((((((((h.set9_0 u0).set9_1 u1).set9_2 u2).set9_3 u3).set9_4 u4).set9_5 u5).set9_6 u6).set9_7 u7).set9_8 u8).cell 8⟩
end
theorem grown9 (w : World) (g : Nat) (u0 u1 u2 u3 u4 u5 u6 u7 u8 : Value) : w.grownBy (put9 w g u0 u1 u2 u3 u4 u5 u6 u7 u8) (some g) := by
  have h := fun (W : World) (i : Nat) (u : Value) => grown_setCell W ⟨g, i, none⟩ u
  exact (grown_trans (grown_trans (grown_trans (grown_trans (grown_trans (grown_trans (grown_trans (grown_trans (h _ _ _) (h _ _ _)) (h _ _ _)) (h _ _ _)) (h _ _ _)) (h _ _ _)) (h _ _ _)) (h _ _ _)) (h _ _ _))
def put11 (w : World) (g : Nat) (u0 u1 u2 u3 u4 u5 u6 u7 u8 u9 u10 : Value) : World := (((((((((((w.setCell ⟨g, 0, none⟩ u0).setCell ⟨g, 1, none⟩ u1).setCell ⟨g, 2, none⟩ u2).setCell ⟨g, 3, none⟩ u3).setCell ⟨g, 4, none⟩ u4).setCell ⟨g, 5, none⟩ u5).setCell ⟨g, 6, none⟩ u6).setCell ⟨g, 7, none⟩ u7).setCell ⟨g, 8, none⟩ u8).setCell ⟨g, 9, none⟩ u9).setCell ⟨g, 10, none⟩ u10)
section
variable {w : World} {g : Nat} {t : TypeId} {a0 a1 a2 a3 a4 a5 a6 a7 a8 a9 a10 : Value}
theorem Blk.set11_0 (h : Blk w g t #[a0, a1, a2, a3, a4, a5, a6, a7, a8, a9, a10]) (u : Value) : Blk (w.setCell ⟨g, 0, none⟩ u) g t #[u, a1, a2, a3, a4, a5, a6, a7, a8, a9, a10] := by simpa using h.set_ 0 u
theorem Blk.set11_1 (h : Blk w g t #[a0, a1, a2, a3, a4, a5, a6, a7, a8, a9, a10]) (u : Value) : Blk (w.setCell ⟨g, 1, none⟩ u) g t #[a0, u, a2, a3, a4, a5, a6, a7, a8, a9, a10] := by simpa using h.set_ 1 u
theorem Blk.set11_2 (h : Blk w g t #[a0, a1, a2, a3, a4, a5, a6, a7, a8, a9, a10]) (u : Value) : Blk (w.setCell ⟨g, 2, none⟩ u) g t #[a0, a1, u, a3, a4, a5, a6, a7, a8, a9, a10] := by simpa using h.set_ 2 u
theorem Blk.set11_3 (h : Blk w g t #[a0, a1, a2, a3, a4, a5, a6, a7, a8, a9, a10]) (u : Value) : Blk (w.setCell ⟨g, 3, none⟩ u) g t #[a0, a1, a2, u, a4, a5, a6, a7, a8, a9, a10] := by simpa using h.set_ 3 u
theorem Blk.set11_4 (h : Blk w g t #[a0, a1, a2, a3, a4, a5, a6, a7, a8, a9, a10]) (u : Value) : Blk (w.setCell ⟨g, 4, none⟩ u) g t #[a0, a1, a2, a3, u, a5, a6, a7, a8, a9, a10] := by simpa using h.set_ 4 u
theorem Blk.set11_5 (h : Blk w g t #[a0, a1, a2, a3, a4, a5, a6, a7, a8, a9, a10]) (u : Value) : Blk (w.setCell ⟨g, 5, none⟩ u) g t #[a0, a1, a2, a3, a4, u, a6, a7, a8, a9, a10] := by simpa using h.set_ 5 u
theorem Blk.set11_6 (h : Blk w g t #[a0, a1, a2, a3, a4, a5, a6, a7, a8, a9, a10]) (u : Value) : Blk (w.setCell ⟨g, 6, none⟩ u) g t #[a0, a1, a2, a3, a4, a5, u, a7, a8, a9, a10] := by simpa using h.set_ 6 u
theorem Blk.set11_7 (h : Blk w g t #[a0, a1, a2, a3, a4, a5, a6, a7, a8, a9, a10]) (u : Value) : Blk (w.setCell ⟨g, 7, none⟩ u) g t #[a0, a1, a2, a3, a4, a5, a6, u, a8, a9, a10] := by simpa using h.set_ 7 u
theorem Blk.set11_8 (h : Blk w g t #[a0, a1, a2, a3, a4, a5, a6, a7, a8, a9, a10]) (u : Value) : Blk (w.setCell ⟨g, 8, none⟩ u) g t #[a0, a1, a2, a3, a4, a5, a6, a7, u, a9, a10] := by simpa using h.set_ 8 u
theorem Blk.set11_9 (h : Blk w g t #[a0, a1, a2, a3, a4, a5, a6, a7, a8, a9, a10]) (u : Value) : Blk (w.setCell ⟨g, 9, none⟩ u) g t #[a0, a1, a2, a3, a4, a5, a6, a7, a8, u, a10] := by simpa using h.set_ 9 u
theorem Blk.set11_10 (h : Blk w g t #[a0, a1, a2, a3, a4, a5, a6, a7, a8, a9, a10]) (u : Value) : Blk (w.setCell ⟨g, 10, none⟩ u) g t #[a0, a1, a2, a3, a4, a5, a6, a7, a8, a9, u] := by simpa using h.set_ 10 u
theorem Blk.put11 (h : Blk w g t #[a0, a1, a2, a3, a4, a5, a6, a7, a8, a9, a10]) (u0 u1 u2 u3 u4 u5 u6 u7 u8 u9 u10 : Value) : Blk (put11 w g u0 u1 u2 u3 u4 u5 u6 u7 u8 u9 u10) g t #[u0, u1, u2, u3, u4, u5, u6, u7, u8, u9, u10] := (((((((((((h.set11_0 u0).set11_1 u1).set11_2 u2).set11_3 u3).set11_4 u4).set11_5 u5).set11_6 u6).set11_7 u7).set11_8 u8).set11_9 u9).set11_10 u10)
theorem Blk.c11 (h : Blk w g t #[a0, a1, a2, a3, a4, a5, a6, a7, a8, a9, a10]) : w.cell? ⟨g, 0, none⟩ = some a0 ∧ w.cell? ⟨g, 1, none⟩ = some a1 ∧ w.cell? ⟨g, 2, none⟩ = some a2 ∧ w.cell? ⟨g, 3, none⟩ = some a3 ∧ w.cell? ⟨g, 4, none⟩ = some a4 ∧ w.cell? ⟨g, 5, none⟩ = some a5 ∧ w.cell? ⟨g, 6, none⟩ = some a6 ∧ w.cell? ⟨g, 7, none⟩ = some a7 ∧ w.cell? ⟨g, 8, none⟩ = some a8 ∧ w.cell? ⟨g, 9, none⟩ = some a9 ∧ w.cell? ⟨g, 10, none⟩ = some a10 := ⟨h.cell 0, h.cell 1, h.cell 2, h.cell 3, h.cell 4, h.cell 5, h.cell 6, h.cell 7, h.cell 8, h.cell 9, h.cell 10⟩
theorem Blk.f11 (h : Blk w g t #[a0, a1, a2, a3, a4, a5, a6, a7, a8, a9, a10]) : w.frozen? ⟨g, 0, none⟩ = false ∧ w.frozen? ⟨g, 1, none⟩ = false ∧ w.frozen? ⟨g, 2, none⟩ = false ∧ w.frozen? ⟨g, 3, none⟩ = false ∧ w.frozen? ⟨g, 4, none⟩ = false ∧ w.frozen? ⟨g, 5, none⟩ = false ∧ w.frozen? ⟨g, 6, none⟩ = false ∧ w.frozen? ⟨g, 7, none⟩ = false ∧ w.frozen? ⟨g, 8, none⟩ = false ∧ w.frozen? ⟨g, 9, none⟩ = false ∧ w.frozen? ⟨g, 10, none⟩ = false := ⟨h.frozen 0, h.frozen 1, h.frozen 2, h.frozen 3, h.frozen 4, h.frozen 5, h.frozen 6, h.frozen 7, h.frozen 8, h.frozen 9, h.frozen 10⟩
theorem Blk.s11 (h : Blk w g t #[a0, a1, a2, a3, a4, a5, a6, a7, a8, a9, a10]) : (∀ u0, (w.setCell ⟨g, 0, none⟩ u0).cell? ⟨g, 0, none⟩ = some u0) ∧
    (∀ u0 u1, ((w.setCell ⟨g, 0, none⟩ u0).setCell ⟨g, 1, none⟩ u1).cell? ⟨g, 1, none⟩ = some u1) ∧
    (∀ u0 u1 u2, (((w.setCell ⟨g, 0, none⟩ u0).setCell ⟨g, 1, none⟩ u1).setCell ⟨g, 2, none⟩ u2).cell? ⟨g, 2, none⟩ = some u2) ∧
    (∀ u0 u1 u2 u3, ((((w.setCell ⟨g, 0, none⟩ u0).setCell ⟨g, 1, none⟩ u1).setCell ⟨g, 2, none⟩ u2).setCell ⟨g, 3, none⟩ u3).cell? ⟨g, 3, none⟩ = some u3) ∧
    (∀ u0 u1 u2 u3 u4, (((((w.setCell ⟨g, 0, none⟩ u0).setCell ⟨g, 1, none⟩ u1).setCell ⟨g, 2, none⟩ u2).setCell ⟨g, 3, none⟩ u3).setCell ⟨g, 4, none⟩ u4).cell? ⟨g, 4, none⟩ = some u4) ∧
    (∀ u0 u1 u2 u3 u4 u5, ((((((w.setCell ⟨g, 0, none⟩ u0).setCell ⟨g, 1, none⟩ u1).setCell ⟨g, 2, none⟩ u2).setCell ⟨g, 3, none⟩ u3).setCell ⟨g, 4, none⟩ u4).setCell ⟨g, 5, none⟩ u5).cell? ⟨g, 5, none⟩ = some u5) ∧
    (∀ u0 u1 u2 u3 u4 u5 u6, (((((((w.setCell ⟨g, 0, none⟩ u0).setCell ⟨g, 1, none⟩ u1).setCell ⟨g, 2, none⟩ u2).setCell ⟨g, 3, none⟩ u3).setCell ⟨g, 4, none⟩ u4).setCell ⟨g, 5, none⟩ u5).setCell ⟨g, 6, none⟩ u6).cell? ⟨g, 6, none⟩ = some u6) ∧
    (∀ u0 u1 u2 u3 u4 u5 u6 u7, ((((((((w.setCell ⟨g, 0, none⟩ u0).setCell ⟨g, 1, none⟩ u1).setCell ⟨g, 2, none⟩ u2).setCell ⟨g, 3, none⟩ u3).setCell ⟨g, 4, none⟩ u4).setCell ⟨g, 5, none⟩ u5).setCell ⟨g, 6, none⟩ u6).setCell ⟨g, 7, none⟩ u7).cell? ⟨g, 7, none⟩ = some u7) ∧
    (∀ u0 u1 u2 u3 u4 u5 u6 u7 u8, (((((((((w.setCell ⟨g, 0, none⟩ u0).setCell ⟨g, 1, none⟩ u1).setCell ⟨g, 2, none⟩ u2).setCell ⟨g, 3, none⟩ u3).setCell ⟨g, 4, none⟩ u4).setCell ⟨g, 5, none⟩ u5).setCell ⟨g, 6, none⟩ u6).setCell ⟨g, 7, none⟩ u7).setCell ⟨g, 8, none⟩ u8).cell? ⟨g, 8, none⟩ = some u8) ∧
    (∀ u0 u1 u2 u3 u4 u5 u6 u7 u8 u9, ((((((((((w.setCell ⟨g, 0, none⟩ u0).setCell ⟨g, 1, none⟩ u1).setCell ⟨g, 2, none⟩ u2).setCell ⟨g, 3, none⟩ u3).setCell ⟨g, 4, none⟩ u4).setCell ⟨g, 5, none⟩ u5).setCell ⟨g, 6, none⟩ u6).setCell ⟨g, 7, none⟩ u7).setCell ⟨g, 8, none⟩ u8).setCell ⟨g, 9, none⟩ u9).cell? ⟨g, 9, none⟩ = some u9) ∧
    (∀ u0 u1 u2 u3 u4 u5 u6 u7 u8 u9 u10, (((((((((((w.setCell ⟨g, 0, none⟩ u0).setCell ⟨g, 1, none⟩ u1).setCell ⟨g, 2, none⟩ u2).setCell ⟨g, 3, none⟩ u3).setCell ⟨g, 4, none⟩ u4).setCell ⟨g, 5, none⟩ u5).setCell ⟨g, 6, none⟩ u6).setCell ⟨g, 7, none⟩ u7).setCell ⟨g, 8, none⟩ u8).setCell ⟨g, 9, none⟩ u9).setCell ⟨g, 10, none⟩ u10).cell? ⟨g, 10, none⟩ = some u10) :=
  ⟨fun u0 => (h.set11_0 u0).cell 0,
    fun u0 u1 => ((h.set11_0 u0).set11_1 u1).cell 1,
    fun u0 u1 u2 => (((h.set11_0 u0).set11_1 u1).set11_2 u2).cell 2,
    fun u0 u1 u2 u3 => ((((h.set11_0 u0).set11_1 u1).set11_2 u2).set11_3 u3).cell 3,
    fun u0 u1 u2 u3 u4 => (((((h.set11_0 u0).set11_1 u1).set11_2 u2).set11_3 u3).set11_4 u4).cell 4,
    fun u0 u1 u2 u3 u4 u5 => ((((((h.set11_0 u0).set11_1 u1).set11_2 u2).set11_3 u3).set11_4 u4).set11_5 u5).cell 5,
    fun u0 u1 u2 u3 u4 u5 u6 => (((((((h.set11_0 u0).set11_1 u1).set11_2 u2).set11_3 u3).set11_4 u4).set11_5 u5).set11_6 u6).cell 6,
    fun u0 u1 u2 u3 u4 u5 u6 u7 => ((((((((h.set11_0 u0).set11_1 u1).set11_2 u2).set11_3 u3).set11_4 u4).set11_5 u5).set11_6 u6).set11_7 u7).cell 7,
    fun u0 u1 u2 u3 u4 u5 u6 u7 u8 => (((((((((h.set11_0 u0).set11_1 u1).set11_2 u2).set11_3 u3).set11_4 u4).set11_5 u5).set11_6 u6).set11_7 u7).set11_8 u8).cell 8,
    fun u0 u1 u2 u3 u4 u5 u6 u7 u8 u9 => ((((((((((h.set11_0 u0).set11_1 u1).set11_2 u2).set11_3 u3).set11_4 u4).set11_5 u5).set11_6 u6).set11_7 u7).set11_8 u8).set11_9 u9).cell 9,
    fun u0 u1 u2 u3 u4 u5 u6 u7 u8 u9 u10 => (((((((((((h.set11_0 u0).set11_1 u1).set11_2 u2).set11_3 u3).set11_4 u4).set11_5 u5).set11_6 u6).set11_7 u7).set11_8 u8).set11_9 u9).set11_10 u10).cell 10⟩
end
theorem grown11 (w : World) (g : Nat) (u0 u1 u2 u3 u4 u5 u6 u7 u8 u9 u10 : Value) : w.grownBy (put11 w g u0 u1 u2 u3 u4 u5 u6 u7 u8 u9 u10) (some g) := by
  have h := fun (W : World) (i : Nat) (u : Value) => grown_setCell W ⟨g, i, none⟩ u
  exact (grown_trans (grown_trans (grown_trans (grown_trans (grown_trans (grown_trans (grown_trans (grown_trans (grown_trans (grown_trans (h _ _ _) (h _ _ _)) (h _ _ _)) (h _ _ _)) (h _ _ _)) (h _ _ _)) (h _ _ _)) (h _ _ _)) (h _ _ _)) (h _ _ _)) (h _ _ _))

/-- A Raw in cells side by side, from an address on; the first cell stands apart. -/
structure AtW (w : World) (b o : Nat) (r : Rw) (vd : Value) : Prop where
  c1 : w.cell? ⟨b, o + 1, none⟩ = some (.int .i64 r.mode)
  c2 : w.cell? ⟨b, o + 2, none⟩ = some (.int .i64 r.uid)
  c3 : w.cell? ⟨b, o + 3, none⟩ = some (.int .i64 r.gid)
  c4 : w.cell? ⟨b, o + 4, none⟩ = some (.int .i64 r.parent)
  c5 : w.cell? ⟨b, o + 5, none⟩ = some (.string (bA r.name))
  c6 : w.cell? ⟨b, o + 6, none⟩ = some vd
  c7 : w.cell? ⟨b, o + 7, none⟩ = some (.string (bA r.target))
  c8 : w.cell? ⟨b, o + 8, none⟩ = some (.int .i64 r.node)
theorem AtW.below {w w' : World} {b o : Nat} {r : Rw} {vd : Value} (h : AtW w b o r vd) (hb : Below w.heap.size w w') : AtW w' b o r vd :=
  ⟨bc hb h.c1, bc hb h.c2, bc hb h.c3, bc hb h.c4, bc hb h.c5, bc hb h.c6, bc hb h.c7, bc hb h.c8⟩
/-- A slice that reads as what is told. -/
def RawsR (w : World) (v : Value) (l : List Rw) : Prop := ∃ A c, v = .slice A l.length c ∧ ∀ (k : Nat) (r : Rw), l[k]? = some r → ∃ (ad : Addr) (vd : Value), A = some ad ∧
  w.cell? (ad.add (k * 9)) = some (.int .i64 r.kind) ∧ AtW w (ad.add (k * 9)).block (ad.add (k * 9)).off r vd ∧ BytesR w vd r.data
theorem RawsR.below {w w' : World} {v : Value} {l : List Rw} (h : RawsR w v l) (hb : Below w.heap.size w w') : RawsR w' v l := by
  obtain ⟨A, c, hv, hc⟩ := h
  refine ⟨A, c, hv, fun k r hk => ?_⟩
  obtain ⟨ad, vd, hA, h0, h1, h2⟩ := hc k r hk
  exact ⟨ad, vd, hA, bc hb h0, h1.below hb, h2.below hb⟩
theorem RawsR.nil (w : World) : RawsR w (.slice none 0 0) [] := ⟨none, 0, rfl, fun k r h => by simp at h⟩
theorem raws_form {w : World} {v : Value} {l : List Rw} (h : RawsR w v l) : ∃ A c, v = .slice A l.length c := by
  obtain ⟨A, c, rfl, -⟩ := h
  exact ⟨A, c, rfl⟩
theorem raws_get {w : World} {A : Option Addr} {n c : Nat} {l : List Rw} (h : RawsR w (.slice A n c) l) {k : Nat} {r : Rw} (hk : l[k]? = some r) : ∃ (ad : Addr) (vd : Value), A = some ad ∧
    w.cell? (ad.add (k * 9)) = some (.int .i64 r.kind) ∧ AtW w (ad.add (k * 9)).block (ad.add (k * 9)).off r vd ∧ BytesR w vd r.data := by
  obtain ⟨A', c', hv, hc⟩ := h
  injection hv with hA
  subst hA
  exact hc k r hk
/-- The beginning of what is told. -/
theorem RawsR.take {w : World} {A : Option Addr} {n c : Nat} {l : List Rw} (h : RawsR w (.slice A n c) l) (k : Nat) (hk : k ≤ l.length) (c' : Nat) : RawsR w (.slice A k c') (l.take k) := by
  obtain ⟨A', c1, hv, hc⟩ := h
  injection hv with hA
  subst hA
  refine ⟨A, c', by rw [List.length_take, Nat.min_eq_left hk], fun j r hj => hc j r ?_⟩
  rw [List.getElem?_take] at hj
  split at hj
  · exact hj
  · cases hj
/-- Is one that is told small? -/
def shortR (r : Rw) : Prop := r.name.length ≤ 40 ∧ r.data.length ≤ 100 ∧ r.target.length ≤ 100
def fewR (l : List Rw) : Prop := (∀ r ∈ l, shortR r) ∧ l.length ≤ 50
theorem shortR.few {r : Rw} (h : shortR r) : Few r.nd := ⟨by have := h.2.1; show r.data.length ≤ _; omega, Nat.zero_le _, (fun e he => by cases he), by have := h.2.2; show r.target.length ≤ _; omega⟩
abbrev rwZ : Array Value := #[.int .i64 0, .int .i64 0, .int .i64 0, .int .i64 0, .int .i64 0, .string ⟨#[]⟩, .slice none 0 0, .string ⟨#[]⟩, .int .i64 0]
set_option maxHeartbeats 4000000 in
theorem nodeOf_any (r : Rw) (A : Option Addr) (n c : Nat) (w : World) :
    Calls Tryz.prog 77 #[.agg (rwC r (.slice A n c))] w fun e w' => e = .returned (nodeV r.nd (.slice A n c) (.slice none 0 0)) ∧ Below w.heap.size w w' := by
  obtain ⟨W1, hW1⟩ : ∃ W1, W1 = (w.alloc (.cells (rwC r (.slice A n c)) 72)).alloc (.cells ndZ 56) := ⟨_, rfl⟩
  have hb1 : Below w.heap.size w W1 := by rw [hW1]; exact al (ba _ _) _
  have hkb : Blk W1 w.heap.size 72 (rwC r (.slice A n c)) := by rw [hW1]; exact (Blk.new _ _ _).alloc _
  have hkr : Blk W1 (w.heap.size + 1) 56 ndZ := by rw [hW1]; have := Blk.new (w.alloc (.cells (rwC r (.slice A n c)) 72)) 56 ndZ; simpa using this
  have HB := Lib.hid (below_grown hb1 (grown7 W1 (w.heap.size + 1) (.int .i64 r.kind) (.int .i64 r.mode) (.int .i64 r.uid) (.int .i64 r.gid) (.slice A n c) (.slice none 0 0) (.string (bA r.target))) (Nat.le_succ _))
  obtain ⟨p0, p1, p2, p3, p4, p5, p6, p7, p8⟩ := hkb.c9
  obtain ⟨f0, f1, f2, f3, f4, f5, f6⟩ := hkr.f7
  obtain ⟨r0, r1, r2, r3, r4, r5, r6⟩ := hkr.c7
  obtain ⟨s0, s1, s2, s3, s4, s5, s6⟩ := hkr.s7
  clear hb1 hkb hkr
  have hW2 := hW1.symm
  clear hW1
  go_enter Tryz.func77, Tryz.ntmps77
  go_wp2
  exact bodyPost_ret (v := nodeV r.nd (.slice A n c) (.slice none 0 0)) (by simp [results, Tryz.results77, go_sem, nodeV, Rw.nd, s0, s1, s2, s3, s4, s5, s6]) rfl ⟨rfl, HB.out⟩
end Go.Proofs.YtfopnfgfoicidaaGreat
namespace Go.Proofs.YtfopnfgfoicidaaGreat
open Go Go.RowKit
set_option maxRecDepth 100000

attribute [local go_sem] cell_off4 cell_blk4
theorem en_new {t : List Nd} {r : Rw} (h : ¬ r.kind = 4) (i : Int) : enE t r = addE t (toB (rightP r.nd)) ∧ enI t r = addI t (toB (rightP r.nd)) ∧ enT t r = actT t 1 i r.nd (toB (rightP r.nd)) := by
  have h1 : enE t r = addE t (toB (rightP r.nd)) := by unfold enE; rw [if_neg h]
  refine ⟨h1, ?_, ?_⟩
  · unfold enI
    rw [h1, if_neg h]
    unfold addI addE
    by_cases q : rightP r.nd
    · rw [toB_true q, if_neg (show ¬ (true = false) by decide), if_pos (show true = true from rfl)]
      by_cases q2 : freeT t 0 = 0
      · rw [if_pos q2, if_neg (show ¬ (28 : Int) = 0 by decide), q2]; rfl
      · rw [if_neg q2, if_pos rfl]
    · rw [toB_false q, if_pos rfl, if_neg (show ¬ (22 : Int) = 0 by decide), if_neg (show ¬ (false = true) by decide)]
  · unfold enT
    rw [h1, if_neg h]
    unfold actT addE
    rw [if_neg (show ¬ (1 : Int) = 0 by decide), if_pos rfl]
    by_cases q : rightP r.nd
    · rw [toB_true q, if_neg (show ¬ (true = false) by decide)]
      by_cases q2 : freeT t 0 = 0
      · rw [if_pos q2, if_neg (show ¬ (28 : Int) = 0 by decide), if_neg (fun h => h.2 q2)]
      · rw [if_neg q2, if_pos rfl, if_pos ⟨rfl, q2⟩]
    · rw [toB_false q, if_pos rfl, if_neg (show ¬ (22 : Int) = 0 by decide), if_neg (fun h => absurd h.1 (by decide))]
theorem ret_two {a b c d : Int} (h1 : a = c) (h2 : b = d) : Ending.returned (.tuple #[.int .i64 a, .int .i64 b]) = .returned (.tuple #[.int .i64 c, .int .i64 d]) := by rw [h1, h2]
set_option maxHeartbeats 4000000 in
theorem entry_any (g : Nat) (t : List Nd) (r : Rw) (A : Option Addr) (c : Nat) (w : World) (h : TabR w g t (fun _ => True)) (hd : BytesR w (.slice A r.data.length c) r.data) (hs : shortR r) :
    Calls Tryz.prog 74 #[.pointer (some ⟨g, 0, none⟩), .agg (rwC r (.slice A r.data.length c))] w fun e w' => e = .returned (.tuple #[.int .i64 (enI t r), .int .i64 (enE t r)]) ∧ TabR w' g (enT t r) (fun _ => True) ∧ w.grownBy w' (some g) := by
  obtain ⟨W1, hW1⟩ : ∃ W1, w.alloc (.cells (rwC r (.slice A r.data.length c)) 72) = W1 := ⟨_, rfl⟩
  have hb1 : Below w.heap.size w W1 := by rw [← hW1]; exact ba _ _
  have hk1 : Blk W1 w.heap.size 72 (rwC r (.slice A r.data.length c)) := by rw [← hW1]; exact Blk.new _ _ _
  have HB := Lib.hid hb1
  have HT := Lib.hid (h.below hb1)
  have HD := Lib.hid (hd.below hb1)
  have HK := Lib.hid hk1
  obtain ⟨p0, p1, p2, p3, p4, p5, p6, p7, p8⟩ := hk1.c9
  clear h hd hb1 hk1
  by_cases h4 : r.kind = 4
  · have e4 : (r.kind != 4) = false := by simpa using h4
    have HG := Lib.hid (get_any _ t r.node W1 HT.out.ptr)
    have hET : enT t r = t := by
      unfold enT
      rw [if_pos h4]
      split <;> rfl
    rw [hET]
    have HE := Lib.hid (show enE t r = if tis t r.node = false then 2 else if (tget t r.node).kind = 2 then 1 else 0 by unfold enE; rw [if_pos h4])
    have HI := Lib.hid (show enI t r = if enE t r = 0 then r.node else 0 by unfold enI; rw [if_pos h4])
    clear h4 hET
    generalize enE t r = X at HE HI ⊢
    generalize enI t r = I at HI ⊢
    generalize tget t r.node = n at HG HE
    go_enter Tryz.func74, Tryz.ntmps74
    go_wp2_with fail
    clear hW1
    refine HG.out.mono ?_
    rintro e w2 ⟨vd, ve, rfl, hd2, he2, -, -, hb2⟩
    obtain ⟨A5, k5, rfl⟩ := bytesT_form hd2
    obtain ⟨A6, k6, rfl⟩ := entsT_form he2
    have hkr := (HK.out.below hb2).alloc (.cells (ndC n (.slice A5 n.data.length k5) (.slice A6 n.ents.length k6)) 56)
    have hkn := Blk.new w2 56 (ndC n (.slice A5 n.data.length k5) (.slice A6 n.ents.length k6))
    have HB2 := Lib.hid (al (bt hb2 HB.out) (.cells (ndC n (.slice A5 n.data.length k5) (.slice A6 n.ents.length k6)) 56))
    have HT2 := Lib.hid (HT.out.below (al hb2 (.cells (ndC n (.slice A5 n.data.length k5) (.slice A6 n.ents.length k6)) 56)))
    obtain ⟨W3, hW3⟩ : ∃ W3, w2.alloc (.cells (ndC n (.slice A5 n.data.length k5) (.slice A6 n.ents.length k6)) 56) = W3 := ⟨_, rfl⟩
    rw [hW3] at hkr hkn HB2 HT2
    clear p0 p1 p2 p3 p4 p5 p6 p7 p8
    obtain ⟨p0, p1, p2, p3, p4, p5, p6, p7, p8⟩ := hkr.c9
    have n0 := hkn.c7.1
    clear hkr hkn hd2 he2 hb2
    unfold nodeV
    cases hX : tis t r.node
    · have hE := HE.out
      rw [hX, if_pos rfl] at hE
      have HI2 := Lib.hid (show (0 : Int) = I by rw [HI.out, hE]; rfl)
      have HE2 := Lib.hid hE.symm
      clear hE hX
      go_wp2
      go_ret2
      exact ⟨ret_two HI2.out HE2.out, HT2.out, grown_below HB2.out _⟩
    · have hE := HE.out
      rw [hX, if_neg (by decide)] at hE
      clear hX
      by_cases q : n.kind = 2
      · have e2 : (n.kind == 2) = true := by simpa using q
        rw [if_pos q] at hE
        have HI2 := Lib.hid (show (0 : Int) = I by rw [HI.out, hE]; rfl)
        have HE2 := Lib.hid hE.symm
        clear hE q
        go_wp2
        go_ret2
        exact ⟨ret_two HI2.out HE2.out, HT2.out, grown_below HB2.out _⟩
      · have e2 : (n.kind == 2) = false := by simpa using q
        rw [if_neg q] at hE
        have HI2 := Lib.hid (show r.node = I by rw [HI.out, hE]; rfl)
        have HE2 := Lib.hid hE.symm
        clear hE q
        go_wp2
        go_ret2
        exact ⟨ret_two HI2.out HE2.out, HT2.out, grown_below HB2.out _⟩
  · have e4 : (r.kind != 4) = true := by simpa using h4
    obtain ⟨h1, h2, h3⟩ := en_new (t := t) h4 0
    rw [h1, h2, h3]
    have HN := Lib.hid (nodeOf_any r A r.data.length c W1)
    have HA := Lib.hid (fun W (hb : Below W1.heap.size W1 W) => add_any g t (fun _ => True) r.nd (.slice A r.data.length c) (.slice none 0 0) W (HT.out.below hb) (HD.out.below hb) (EntsR.nil W) hs.few (fun _ _ => trivial) 0)
    clear h1 h2 h3 h4 hs
    go_enter Tryz.func74, Tryz.ntmps74
    go_wp2_with fail
    clear hW1
    refine HN.out.mono ?_
    rintro e w2 ⟨rfl, hb2⟩
    have HB2 := Lib.hid (bt hb2 HB.out)
    have HC := Lib.hid (HA.out w2 hb2)
    clear hb2 HA
    unfold nodeV at HC ⊢
    go_wp2_with fail
    refine HC.out.mono ?_
    rintro e w3 ⟨rfl, ht3, hg3⟩
    have HT3 := Lib.hid ht3
    have HG3 := Lib.hid (grown_trans (grown_below HB2.out (some g)) hg3)
    clear ht3 hg3
    go_wp2
    go_ret2
    exact ⟨rfl, HT3.out, HG3.out⟩
/-- Behind a change of one block, one is changed that was new. -/
theorem grown_new {a b c : World} {g d : Nat} (h : a.grownBy b (some g)) (h' : b.grownBy c (some d)) (hd : a.heap.size ≤ d) : a.grownBy c (some g) :=
  ⟨h'.os.trans h.os, h'.tape.trans h.tape, h'.output.trans h.output, Nat.le_trans h.size h'.size, fun i hi hne => (h'.block i (Nat.lt_of_lt_of_le hi h.size) (by intro e; injection e with e; omega)).trans (h.block i hi hne)⟩
set_option maxHeartbeats 4000000 in
theorem root_any (g : Nat) (t : List Nd) (r : Rw) (A : Option Addr) (c : Nat) (w : World) (h : TabR w g t (fun _ => True)) (hd : BytesR w (.slice A r.data.length c) r.data) (hs : shortR r) :
    Calls Tryz.prog 54 #[.pointer (some ⟨g, 0, none⟩), .agg (rwC r (.slice A r.data.length c))] w fun e w' => e = .returned (.int .i64 (rtE t r)) ∧ w.grownBy w' (some g) ∧ (rtE t r = 0 → TabR w' g (rtT t r) (fun _ => True)) := by
  obtain ⟨W1, hW1⟩ : ∃ W1, w.alloc (.cells (rwC r (.slice A r.data.length c)) 72) = W1 := ⟨_, rfl⟩
  have hb1 : Below w.heap.size w W1 := by rw [← hW1]; exact ba _ _
  have hk1 : Blk W1 w.heap.size 72 (rwC r (.slice A r.data.length c)) := by rw [← hW1]; exact Blk.new _ _ _
  have HB := Lib.hid hb1
  have HT := Lib.hid (h.below hb1)
  have HD := Lib.hid (hd.below hb1)
  obtain ⟨p0, p1, p2, p3, p4, p5, p6, p7, p8⟩ := hk1.c9
  clear h hd hb1 hk1
  have HN := Lib.hid (nodeOf_any r A r.data.length c W1)
  have HA := Lib.hid (fun W (hb : Below W1.heap.size W1 W) => add_any g t (fun _ => True) r.nd (.slice A r.data.length c) (.slice none 0 0) W (HT.out.below hb) (HD.out.below hb) (EntsR.nil W) hs.few (fun _ _ => trivial) 0)
  by_cases q : r.kind ≠ 2 ∨ r.parent ≠ 0 ∨ r.name ≠ []
  · have hE : rtE t r = 22 := by unfold rtE; rw [if_pos q]
    rw [hE]
    have HX := Lib.hid (show (22 : Int) = 0 → ∀ W, TabR W g (rtT t r) (fun _ => True) from fun h => absurd h (by decide))
    clear hE hs HN HA
    by_cases q1 : r.kind = 2
    · have e1 : (r.kind != 2) = false := by simpa using q1
      by_cases q2 : r.parent = 0
      · have e2 : (r.parent != 0) = false := by simpa using q2
        have q3 : r.name ≠ [] := by
          rcases q with q | q | q
          · exact absurd q1 q
          · exact absurd q2 q
          · exact q
        have e3 : ((bA r.name).toList == ([] : List UInt8)) = false := by
          rw [Bool.eq_false_iff]
          intro h
          exact q3 ((len0_iff _).1 h)
        have e4 : ((bA r.name).toList != ([] : List UInt8)) = true := by
          show (!((bA r.name).toList == ([] : List UInt8))) = true
          rw [e3]; rfl
        clear q q1 q2 q3
        go_enter Tryz.func54, Tryz.ntmps54
        go_wp2
        go_ret
        exact ⟨rfl, grown_below HB.out _, fun h => HX.out h _⟩
      · have e2 : (r.parent != 0) = true := by simpa using q2
        clear q q1 q2
        go_enter Tryz.func54, Tryz.ntmps54
        go_wp2
        go_ret
        exact ⟨rfl, grown_below HB.out _, fun h => HX.out h _⟩
    · have e1 : (r.kind != 2) = true := by simpa using q1
      clear q q1
      go_enter Tryz.func54, Tryz.ntmps54
      go_wp2
      go_ret
      exact ⟨rfl, grown_below HB.out _, fun h => HX.out h _⟩
  · have hE : rtE t r = addE t (toB (rightP r.nd)) := by unfold rtE; rw [if_neg q]
    have q1 : r.kind = 2 := Classical.byContradiction (fun z => q (.inl z))
    have q2 : r.parent = 0 := Classical.byContradiction (fun z => q (.inr (.inl z)))
    have q3 : r.name = [] := Classical.byContradiction (fun z => q (.inr (.inr z)))
    have e1 : (r.kind != 2) = false := by simpa using q1
    have e2 : (r.parent != 0) = false := by simpa using q2
    have e3 : ((bA r.name).toList == ([] : List UInt8)) = true := (len0_iff _).2 q3
    have e4 : ((bA r.name).toList != ([] : List UInt8)) = false := by
      show (!((bA r.name).toList == ([] : List UInt8))) = false
      rw [e3]; rfl
    rw [hE]
    have HX := Lib.hid (show addE t (toB (rightP r.nd)) = 0 → rtT t r = actT t 1 0 r.nd (toB (rightP r.nd)) from fun h => by
      obtain ⟨h1, h2⟩ := addE_zero.1 h
      unfold rtT actT
      rw [if_neg (show ¬ (1 : Int) = 0 by decide), if_pos rfl, toB_true h1, if_pos ⟨rfl, h2⟩])
    clear q q1 q2 q3 hE hs
    go_enter Tryz.func54, Tryz.ntmps54
    go_wp2_with fail
    clear hW1
    refine HN.out.mono ?_
    rintro e w2 ⟨rfl, hb2⟩
    have HB2 := Lib.hid (bt hb2 HB.out)
    have HC := Lib.hid (HA.out w2 hb2)
    clear hb2 HA
    unfold nodeV at HC ⊢
    go_wp2_with fail
    refine HC.out.mono ?_
    rintro e w3 ⟨rfl, ht3, hg3⟩
    have HT3 := Lib.hid ht3
    have HG3 := Lib.hid (grown_trans (grown_below HB2.out (some g)) hg3)
    clear ht3 hg3
    go_wp2
    go_ret
    exact ⟨rfl, HG3.out, fun h => by rw [HX.out h]; exact HT3.out⟩
theorem EntsT.not {w : World} {g : Nat} {v : Value} {l : List En} {t : TypeId} {cs : Array Value} (h : EntsT w v l) (hk : Blk w g t cs) (hne : 109 ≠ t) : ∀ (ad : Addr) (n c : Nat), v = .slice (some ad) n c → ad.block ≠ g := fun ad n c hv => by
  obtain ⟨ds, hb⟩ := h.2 ad n c hv
  exact blk_ne hb hk hne
set_option maxHeartbeats 8000000 in
theorem below_any (g : Nat) (t : List Nd) (r : Rw) (A : Option Addr) (c : Nat) (w : World) (h : TabR w g t (fun _ => True)) (hd : BytesR w (.slice A r.data.length c) r.data) (hs : shortR r) :
    Calls Tryz.prog 53 #[.pointer (some ⟨g, 0, none⟩), .agg (rwC r (.slice A r.data.length c))] w fun e w' => e = .returned (.int .i64 (blE t r)) ∧ w.grownBy w' (some g) ∧ (blE t r = 0 → TabR w' g (blT t r) (fun _ => True)) := by
  obtain ⟨W1, hW1⟩ : ∃ W1, w.alloc (.cells (rwC r (.slice A r.data.length c)) 72) = W1 := ⟨_, rfl⟩
  have hb1 : Below w.heap.size w W1 := by rw [← hW1]; exact ba _ _
  have hk1 : Blk W1 w.heap.size 72 (rwC r (.slice A r.data.length c)) := by rw [← hW1]; exact Blk.new _ _ _
  have HGW := Lib.hid h.lt
  have HB := Lib.hid hb1
  have HT := Lib.hid (h.below hb1)
  have HDD := Lib.hid (show BytesR W1 (.slice A r.data.length c) r.data from hd.below hb1)
  have HK := Lib.hid hk1
  have HGW1 := Lib.hid hk1.lt
  have HS := Lib.hid hs
  obtain ⟨p0, p1, p2, p3, p4, p5, p6, p7, p8⟩ := hk1.c9
  have HG := Lib.hid (get_any _ t r.parent W1 HT.out.ptr)
  have HFD := Lib.hid (ok_few h.ok r.parent)
  have HRT := Lib.hid (show tis t r.parent = true → enE t r = 0 → withE (tget t r.parent) r.name (enI t r) = 0 → rightP (withM (tget t r.parent) r.name (enI t r)) from fun h1 _ h3 => (right_with (tis_right h.ok h1) h3).1)
  have HBL := Lib.hid (show blE t r = if tis t r.parent = false then 2 else if enE t r = 0 then withE (tget t r.parent) r.name (enI t r) else enE t r from rfl)
  have HBT := Lib.hid (show tis t r.parent = true → rightP (withM (tget t r.parent) r.name (enI t r)) → actT (enT t r) 0 r.parent (withM (tget t r.parent) r.name (enI t r)) (toB (rightP (withM (tget t r.parent) r.name (enI t r)))) = blT t r ∧ putE (enT t r) r.parent (toB (rightP (withM (tget t r.parent) r.name (enI t r)))) = 0 from fun h1 h2 => by
    have h3 : tis (enT t r) r.parent = true := en_tis h1
    constructor
    · unfold actT blT
      rw [if_pos rfl, if_pos ⟨h3, toB_true h2⟩]
    · unfold putE
      rw [h3, toB_true h2]
      rfl)
  have HEN := Lib.hid (fun W (ht : TabR W g t (fun _ => True)) (hb : BytesR W (.slice A r.data.length c) r.data) => entry_any g t r A c W ht hb HS.out)
  generalize blE t r = Z at HBL ⊢
  generalize blT t r = T2 at HBT ⊢
  generalize enE t r = X at HRT HBL HEN
  generalize enI t r = I at HRT HBL HBT HEN
  generalize enT t r = T1 at HBT HEN
  clear h hd hb1 hk1 hs
  obtain ⟨n, hn⟩ : ∃ n, tget t r.parent = n := ⟨_, rfl⟩
  rw [hn] at HG HRT HBL HBT HFD
  go_enter Tryz.func53, Tryz.ntmps53
  go_wp2_with fail
  clear hW1 hn
  refine HG.out.mono ?_
  rintro e w2 ⟨vd, ve, rfl, hd2, he2, hl2, hm2, hb2⟩
  obtain ⟨A5, k5, rfl⟩ := bytesT_form hd2
  obtain ⟨A6, k6, rfl⟩ := entsT_form he2
  have hbx := al hb2 (.cells (ndC n (.slice A5 n.data.length k5) (.slice A6 n.ents.length k6)) 56)
  have hbw := ba w2 (.cells (ndC n (.slice A5 n.data.length k5) (.slice A6 n.ents.length k6)) 56)
  have hkr := HK.out.below hbx
  have hkn := Blk.new w2 56 (ndC n (.slice A5 n.data.length k5) (.slice A6 n.ents.length k6))
  have hd3 := hd2.below hbw
  have he3 := he2.below hbw
  have ht3 := HT.out.below hbx
  have hdd3 := HDD.out.below hbx
  have HB3 := Lib.hid (bt hbx HB.out)
  obtain ⟨d, hdz⟩ : ∃ d, w2.heap.size = d := ⟨_, rfl⟩
  have HDG := Lib.hid (show d ≠ g ∧ w.heap.size < d by have := HGW.out; have := HGW1.out; have := hb2.size; constructor <;> omega)
  obtain ⟨W3, hW3⟩ : ∃ W3, w2.alloc (.cells (ndC n (.slice A5 n.data.length k5) (.slice A6 n.ents.length k6)) 56) = W3 := ⟨_, rfl⟩
  rw [hW3] at hkr hkn hd3 he3 ht3 hdd3 HB3
  rw [hdz] at hkn
  have HKR := Lib.hid hkr
  have HKN := Lib.hid hkn
  have HD3 := Lib.hid hd3
  have HE3 := Lib.hid he3
  have HC3 := Lib.hid (HEN.out W3 ht3 hdd3)
  have HL2 := Lib.hid (show (∀ (ad : Addr) (m c : Nat), Value.slice A5 n.data.length k5 = .slice (some ad) m c → ad.block ≠ g) ∧ (∀ (ad : Addr) (m c : Nat), Value.slice A6 n.ents.length k6 = .slice (some ad) m c → ad.block ≠ g) from
    ⟨fun ad m c hv => by have h1 := hl2 ad m c hv; have := HGW.out; have := HB.out.size; omega, fun ad m c hv => by have h1 := hm2 ad m c hv; have := HGW.out; have := HB.out.size; omega⟩)
  clear p0 p1 p2 p3 p4 p5 p6 p7 p8
  obtain ⟨p0, p1, p2, p3, p4, p5, p6, p7, p8⟩ := hkr.c9
  clear hkr hkn hd2 he2 hb2 hbx hbw hd3 he3 ht3 hdd3 hl2 hm2 HG HEN HT HDD HK
  unfold nodeV
  cases hX : tis t r.parent
  · have hZ := HBL.out
    rw [hX, if_pos rfl] at hZ
    have HZ := Lib.hid hZ.symm
    clear hZ hX
    go_wp2
    go_ret
    exact ⟨ret_int HZ.out, grown_below HB3.out _, fun h => by rw [← HZ.out] at h; exact absurd h (by decide)⟩
  · have hZ := HBL.out
    rw [hX, if_neg (by decide)] at hZ
    have HBT2 := Lib.hid (HBT.out hX)
    have HRT2 := Lib.hid (HRT.out hX)
    clear hX HBL HBT HRT
    go_wp2_with fail
    clear hW3 hdz
    refine HC3.out.mono ?_
    rintro e w4 ⟨rfl, ht4, hg4⟩
    have hkr4 := HKR.out.kept hg4 (by intro e; injection e with e; have := HGW.out; omega)
    have hkn4 := HKN.out.kept hg4 (by intro e; injection e with e; exact HDG.out.1 e)
    have hd4 := HD3.out.other hg4 HL2.out.1
    have he4 := HE3.out.other hg4 HL2.out.2
    have hgw4 := grown_trans (grown_below HB3.out (some g)) hg4
    have HGW4 := Lib.hid hgw4
    have HKR4 := Lib.hid hkr4
    have HKN4 := Lib.hid hkn4
    have HT4 := Lib.hid ht4
    clear p0 p1 p2 p3 p4 p5 p6 p7 p8
    obtain ⟨p0, p1, p2, p3, p4, p5, p6, p7, p8⟩ := hkr4.c9
    obtain ⟨n0, n1, n2, n3, n4, n5, n6⟩ := hkn4.c7
    by_cases qX : X = 0
    · subst qX
      rw [if_pos rfl] at hZ
      have HC5 := Lib.hid (with_anyT n _ _ r.name I w4 hd4.1 he4.1 HFD.out.data HFD.out.ents (by have := HS.out.1; omega))
      have HRT3 := Lib.hid (HRT2.out rfl)
      clear hkr4 hkn4 hd4 he4 ht4 hg4 hgw4 HC3 HD3 HE3 HKR HKN HRT2
      rw [← hZ] at HC5 HRT3
      generalize withM n r.name I = N at HC5 HRT3 HBT2
      unfold nodeV at HC5
      go_wp2_with fail
      refine HC5.out.mono ?_
      rintro e w5 ⟨v, rfl, ⟨vd5, ve5, rfl, hx5, hy5⟩, hb5⟩
      obtain ⟨A7, k7, rfl⟩ := bytesX_form hx5
      obtain ⟨A8, k8, rfl⟩ := entsT_form hy5
      have hkr5 := HKR4.out.below hb5
      have hkn5 := HKN4.out.below hb5
      obtain ⟨W6, hW6⟩ : ∃ W6, put7 w5 d (.int .i64 N.kind) (.int .i64 N.mode) (.int .i64 N.uid) (.int .i64 N.gid) (.slice A7 N.data.length k7) (.slice A8 N.ents.length k8) (.string (bA N.target)) = W6 := ⟨_, rfl⟩
      have hg6 : w5.grownBy W6 (some d) := by rw [← hW6]; exact grown7 _ _ _ _ _ _ _ _ _
      have hkn6 : Blk W6 d 56 (ndC N (.slice A7 N.data.length k7) (.slice A8 N.ents.length k8)) := by rw [← hW6]; exact hkn5.put7 _ _ _ _ _ _ _
      have hkr6 := hkr5.kept hg6 (by intro e; injection e with e; have := HDG.out.2; omega)
      have HT6 := Lib.hid ((HT4.out.below hb5).kind hg6 (fun e => HDG.out.1 e.symm) hkn5 (by decide) (by decide))
      have HX6 := Lib.hid (hx5.kept hkn5 (by decide) hg6)
      have HY6 := Lib.hid (hy5.kept hkn5 (by decide) hg6)
      have HGW6 := Lib.hid (show w.grownBy W6 (some g) from grown_new (grown_trans HGW4.out (grown_below hb5 (some g))) hg6 (Nat.le_of_lt HDG.out.2))
      clear n0 n1 n2 n3 n4 n5 n6 p0 p1 p2 p3 p4 p5 p6 p7 p8
      obtain ⟨f0, f1, f2, f3, f4, f5, f6⟩ := hkn5.f7
      obtain ⟨m0, m1, m2, m3, m4, m5, m6⟩ := hkn5.c7
      obtain ⟨n0, n1, n2, n3, n4, n5, n6⟩ := hkn6.c7
      obtain ⟨p0, p1, p2, p3, p4, p5, p6, p7, p8⟩ := hkr6.c9
      unfold put7 at hW6
      clear hkr5 hkn5 hkn6 hkr6 hx5 hy5 hb5 hg6 HC5 HKR4 HKN4 HT4
      unfold nodeV
      by_cases qZ : Z = 0
      · have eZ : (Z != 0) = false := by simpa using qZ
        have HRN := Lib.hid (HRT3.out qZ)
        have HPT := Lib.hid (HBT2.out HRN.out)
        have HC7 := Lib.hid (put_any g T1 (fun _ => True) r.parent N _ _ W6 HT6.out HX6.out.bytes HY6.out.1 (right_few HRN.out) (fun _ _ => trivial))
        rw [HPT.out.1, HPT.out.2] at HC7
        unfold nodeV at HC7
        have HZ := Lib.hid qZ
        clear qZ hZ HRT3 HBT2
        go_wp2_with fail
        clear hW6
        refine HC7.out.mono ?_
        rintro e w7 ⟨rfl, ht7, hg7⟩
        have HT7 := Lib.hid ht7
        have HG7 := Lib.hid (grown_trans HGW6.out hg7)
        clear ht7 hg7
        go_wp2
        go_ret
        exact ⟨ret_int HZ.out.symm, HG7.out, fun _ => HT7.out⟩
      · have eZ : (Z != 0) = true := by simpa using qZ
        have HZ := Lib.hid qZ
        clear qZ hZ HBT2 HRT3
        go_wp2
        go_ret
        exact ⟨rfl, HGW6.out, fun h => absurd h HZ.out⟩
    · rw [if_neg qX] at hZ
      subst hZ
      have eX : (Z != 0) = true := by simpa using qX
      have HX := Lib.hid qX
      clear qX hkr4 hkn4 hd4 he4 ht4 hg4 hgw4 HC3 HRT2 HBT2
      go_wp2
      go_ret
      exact ⟨rfl, HGW4.out, fun h => absurd h HX.out⟩
end Go.Proofs.YtfopnfgfoicidaaGreat
namespace Go.Proofs.YtfopnfgfoicidaaGreat
open Go Go.RowKit
set_option maxRecDepth 100000

attribute [local go_sem] cell_off4 cell_blk4
/-- What Build answers. -/
def BldAns (w : World) (X : BR) (e : Ending) (w' : World) : Prop :=
  match X with
  | .bad k err => e = .returned (.tuple #[.pointer none, .int .i64 (k : Int), .int .i64 err]) ∧ err ≠ 0
  | .good T => ∃ g, e = .returned (.tuple #[.pointer (some ⟨g, 0, none⟩), .int .i64 0, .int .i64 0]) ∧ TabR w' g T (fun _ => True) ∧ w.heap.size ≤ g
theorem bad_ans {w w' : World} {X : BR} {k : Nat} {err : Int} (h : X = .bad k err) (hne : err ≠ 0) : BldAns w X (.returned (.tuple #[.pointer none, .int .i64 (k : Int), .int .i64 err])) w' := by
  subst h
  exact ⟨rfl, hne⟩
theorem good_ans {w w' : World} {X : BR} {g : Nat} {T : List Nd} (h : X = .good T) (ht : TabR w' g T (fun _ => True)) (hg : w.heap.size ≤ g) : BldAns w X (.returned (.tuple #[.pointer (some ⟨g, 0, none⟩), .int .i64 0, .int .i64 0])) w' := by
  subst h
  exact ⟨g, rfl, ht, hg⟩
theorem drop_cons' {α : Type} {l : List α} {k : Nat} {x : α} (h : l[k]? = some x) : l.drop k = x :: l.drop (k + 1) := by
  obtain ⟨h1, h2⟩ := List.getElem?_eq_some_iff.1 h
  rw [List.drop_eq_getElem_cons h1, h2]
/-- Where a loop through what is told stands. -/
def BldAt (m : Int) (l : List Rw) (k : Nat) (T : List Nd) : Prop := (k = 0 ∧ T = newN m) ∨ (1 ≤ k ∧ bld T k (l.drop k) = bldA m l)
theorem bldAt_end {m : Int} {l : List Rw} {k : Nat} {T : List Nd} (h : BldAt m l k T) (hl : l ≠ []) (hk : l.length ≤ k) : bldA m l = .good T := by
  rcases h with ⟨rfl, -⟩ | ⟨h1, h2⟩
  · cases l with
    | nil => exact absurd rfl hl
    | cons a l => exact absurd hk (by simp)
  · rw [← h2, List.drop_eq_nil_of_le hk]
    rfl
theorem bldAt_root {m : Int} {l : List Rw} {r : Rw} (hr : l[0]? = some r) : (rtE (newN m) r = 0 → BldAt m l 1 (rtT (newN m) r)) ∧ (rtE (newN m) r ≠ 0 → bldA m l = .bad 0 (rtE (newN m) r)) := by
  cases l with
  | nil => cases hr
  | cons a l =>
    have : a = r := by simpa using hr
    subst this
    constructor
    · intro h
      refine .inr ⟨Nat.le_refl _, ?_⟩
      rw [bldA, if_pos h]
      rfl
    · intro h
      rw [bldA, if_neg h]
theorem bldAt_step {m : Int} {l : List Rw} {k : Nat} {T : List Nd} {r : Rw} (h : BldAt m l k T) (hk : k ≠ 0) (hr : l[k]? = some r) : (blE T r = 0 → BldAt m l (k + 1) (blT T r)) ∧ (blE T r ≠ 0 → bldA m l = .bad k (blE T r)) := by
  rcases h with ⟨h1, -⟩ | ⟨h1, h2⟩
  · exact absurd h1 hk
  · rw [drop_cons' hr, bld] at h2
    constructor
    · intro h
      rw [if_pos h] at h2
      exact .inr ⟨by omega, h2⟩
    · intro h
      rw [if_neg h] at h2
      exact h2.symm
set_option maxHeartbeats 8000000 in
theorem build_any (m : Int) (v : Value) (l : List Rw) (w : World) (h : RawsR w v l) (hf : fewR l) :
    Calls Tryz.prog 25 #[.int .i64 m, v] w fun e w' => BldAns w (bldA m l) e w' ∧ Below w.heap.size w w' := by
  obtain ⟨A, c, rfl⟩ := raws_form h
  have hlen := hf.2
  by_cases hz : l.length = 0
  · have hl0 : l = [] := List.length_eq_zero_iff.1 hz
    subst hl0
    clear h hf hlen hz
    go_enter Tryz.func25, Tryz.ntmps25
    go_wp2
    go_ret3
    exact ⟨⟨rfl, by decide⟩, Below.refl _ _⟩
  · have hzb : ((l.length : Int) == 0) = false := by simpa using hz
    have HNE := Lib.hid (show l ≠ [] from fun q => hz (by rw [q]; rfl))
    have HF := Lib.hid hf.1
    have HA := Lib.hid h
    obtain ⟨X, hX⟩ : ∃ X, bldA m l = X := ⟨_, rfl⟩
    have HST := Lib.hid (fun (k : Nat) (T : List Nd) (r : Rw) (h : BldAt m l k T) (hk : k ≠ 0) (hr : l[k]? = some r) => bldAt_step h hk hr)
    have HEND := Lib.hid (fun (k : Nat) (T : List Nd) (h : BldAt m l k T) (hk : l.length ≤ k) => bldAt_end h HNE.out hk)
    have HRO := Lib.hid (fun (r : Rw) (hr : l[0]? = some r) => bldAt_root (m := m) hr)
    rw [hX] at HST HEND HRO ⊢
    clear h hf hX hz
    go_enter Tryz.func25, Tryz.ntmps25
    go_wp2_with fail
    refine (new_any m w).mono ?_
    rintro e w1 ⟨rfl, ht1, hb1, -⟩
    obtain ⟨g, hg⟩ : ∃ g, w.heap.size = g := ⟨_, rfl⟩
    have HT1 := Lib.hid (show TabR w1 w.heap.size (newN m) (fun _ => True) from ht1 _)
    have HB1 := Lib.hid hb1
    rw [hg] at HT1 ⊢
    have HGS := Lib.hid (Nat.le_of_eq hg)
    have HGE := Lib.hid (Nat.le_of_eq hg.symm)
    clear ht1 hb1 hg
    go_wp2
    go_loopg [19] l.length (fun gh s19 wr => ∃ (k : Nat) (T : List Nd), s19 = .int .i64 k ∧ k ≤ l.length ∧ gh = l.length - k ∧ TabR wr g T (fun _ => True) ∧ Below w.heap.size w wr ∧ BldAt m l k T)
    case atStart => exact ⟨0, newN m, rfl, Nat.zero_le _, rfl, HT1.out, HB1.out, .inl ⟨rfl, rfl⟩⟩
    case round =>
      clear HT1 HB1
      obtain ⟨k, T, rfl, hk, rfl, ht, hbr, hat⟩ := hrel
      have HT := Lib.hid ht
      have HB := Lib.hid hbr
      have HAT := Lib.hid hat
      clear ht hbr hat
      by_cases hlt : k < l.length
      · have hlt' : (k : Int) < (l.length : Int) := by omega
        obtain ⟨r, hr⟩ : ∃ r, l[k]? = some r := ⟨_, List.getElem?_eq_getElem hlt⟩
        obtain ⟨ad, vd, hA, c0, ⟨c1, c2, c3, c4, c5, c6, c7, c8⟩, hd⟩ := raws_get (HA.out.below HB.out) hr
        subst hA
        have HS := Lib.hid (HF.out r (List.mem_of_getElem? hr))
        obtain ⟨A1, k1, rfl⟩ := bytes_form hd rfl
        have hbx := ba wr (.cells (rwC r (.slice A1 r.data.length k1)) 72)
        have hkr := Blk.new wr 72 (rwC r (.slice A1 r.data.length k1))
        have HT2 := Lib.hid (HT.out.below hbx)
        have HD2 := Lib.hid (hd.below hbx)
        have HB2 := Lib.hid (bt hbx HB.out)
        obtain ⟨W2, hW2⟩ : ∃ W2, wr.alloc (.cells (rwC r (.slice A1 r.data.length k1)) 72) = W2 := ⟨_, rfl⟩
        rw [hW2] at hkr HT2 HD2 HB2
        have HK := Lib.hid hr
        obtain ⟨p0, p1, p2, p3, p4, p5, p6, p7, p8⟩ := hkr.c9
        clear hd hbx hkr hr HT HB
        by_cases k0 : k = 0
        · have e0 : ((k : Int) == 0) = true := by simpa using k0
          have HC := Lib.hid (show T = newN m ∧ l[0]? = some r from by
            rcases HAT.out with ⟨h1, h2⟩ | ⟨h1, -⟩
            · exact ⟨h2, by rw [← h1]; exact HK.out⟩
            · omega)
          have HRR := Lib.hid (HRO.out r HC.out.2)
          have HCC := Lib.hid (root_any g T r A1 k1 W2 HT2.out HD2.out HS.out)
          rw [HC.out.1] at HCC
          have HK0 := Lib.hid k0
          clear k0
          generalize rtE (newN m) r = E at HRR HCC
          go_wp2_with fail
          clear hW2
          refine HCC.out.mono ?_
          rintro e w3 ⟨rfl, hg3, ht3⟩
          have HB3 := Lib.hid (below_grown HB2.out hg3 HGS.out)
          have HT3 := Lib.hid ht3
          clear ht3 hg3 c0 c1 c2 c3 c4 c5 c6 c7 c8 p0 p1 p2 p3 p4 p5 p6 p7 p8
          by_cases qE : E = 0
          · have eE : (E != 0) = false := by simpa using qE
            have HQ := Lib.hid (HT3.out qE)
            have HAT2 := Lib.hid (HRR.out.1 qE)
            clear qE
            go_wp2
            go_roundg (l.length - (k + 1))
            case measure => omega
            case rel => exact ⟨k + 1, rtT (newN m) r, by go_num, by omega, rfl, HQ.out, HB3.out, by rw [HK0.out]; exact HAT2.out⟩
          · have eE : (E != 0) = true := by simpa using qE
            have HQ := Lib.hid (HRR.out.2 qE)
            have HNZ := Lib.hid qE
            clear qE
            go_wp2
            go_ret3
            exact ⟨by have h1 := HQ.out; rw [← HK0.out] at h1; exact bad_ans h1 HNZ.out, HB3.out⟩
        · have e0 : ((k : Int) == 0) = false := by simpa using k0
          have HRR := Lib.hid (HST.out k T r HAT.out k0 HK.out)
          have HCC := Lib.hid (below_any g T r A1 k1 W2 HT2.out HD2.out HS.out)
          clear k0
          generalize blE T r = E at HRR HCC
          go_wp2_with fail
          clear hW2
          refine HCC.out.mono ?_
          rintro e w3 ⟨rfl, hg3, ht3⟩
          have HB3 := Lib.hid (below_grown HB2.out hg3 HGS.out)
          have HT3 := Lib.hid ht3
          clear ht3 hg3 c0 c1 c2 c3 c4 c5 c6 c7 c8 p0 p1 p2 p3 p4 p5 p6 p7 p8
          by_cases qE : E = 0
          · have eE : (E != 0) = false := by simpa using qE
            have HQ := Lib.hid (HT3.out qE)
            have HAT2 := Lib.hid (HRR.out.1 qE)
            clear qE
            go_wp2
            go_roundg (l.length - (k + 1))
            case measure => omega
            case rel => exact ⟨k + 1, blT T r, by go_num, by omega, rfl, HQ.out, HB3.out, HAT2.out⟩
          · have eE : (E != 0) = true := by simpa using qE
            have HQ := Lib.hid (HRR.out.2 qE)
            have HNZ := Lib.hid qE
            clear qE
            go_wp2
            go_ret3
            exact ⟨bad_ans HQ.out HNZ.out, HB3.out⟩
      · have hlt' : ¬ (k : Int) < (l.length : Int) := by omega
        have HQ := Lib.hid (HEND.out k T HAT.out (by omega))
        go_wp2
        go_ret3
        exact ⟨good_ans HQ.out HT.out HGS.out, HB.out⟩
end Go.Proofs.YtfopnfgfoicidaaGreat
namespace Go.Proofs.YtfopnfgfoicidaaGreat
open Go Go.RowKit
set_option maxRecDepth 100000

/-- Where a number stands in a list; -1: nowhere. -/
def ixI (l : List Int) (n : Int) : Int := if n ∈ l then (l.idxOf n : Int) else -1
def rwN (n : Nd) (p : Int) (nm : Nm) : Rw := ⟨n.kind, n.mode, n.uid, n.gid, p, nm, n.data, n.target, 0⟩
def rwA (p : Int) (nm : Nm) (j : Int) : Rw := ⟨4, 0, 0, 0, p, nm, [], [], j⟩
abbrev Tl := List Int × List Rw
/-- One entry is told. -/
def tlE (t : List Nd) (p : Int) (s : Tl) (i : Int) (nm : Nm) : Tl := if i ∈ s.1 then (s.1, s.2 ++ [rwA p nm ((s.1.idxOf i : Int) + 1)]) else (s.1 ++ [i], s.2 ++ [rwN (tget t i) p nm])
/-- A directory's entries. -/
def tlD (t : List Nd) (k : Nat) (s : Tl) (l : List En) : Tl := l.foldl (fun s e => tlE t ((k : Int) + 1) s e.2 e.1) s
def tlS (t : List Nd) : Nat → Tl
  | 0 => tlE t 0 ([], []) 1 []
  | k + 1 => match (tlS t k).1[k]? with
    | some i => tlD t k (tlS t k) (tget t i).ents
    | none => tlS t k
def tlT (t : List Nd) : List Rw := (tlS t 24).2
theorem tlS_go {t : List Nd} {k : Nat} {i : Int} (h : (tlS t k).1[k]? = some i) : tlS t (k + 1) = tlD t k (tlS t k) (tget t i).ents := by
  rw [tlS, h]
theorem tlS_halt {t : List Nd} {k : Nat} (h : (tlS t k).1.length ≤ k) : tlS t (k + 1) = tlS t k := by
  rw [tlS, List.getElem?_eq_none h]
theorem tlS_stay {t : List Nd} {k : Nat} (h : (tlS t k).1.length ≤ k) : ∀ j, tlS t (k + j) = tlS t k
  | 0 => rfl
  | j + 1 => by
    have ih := tlS_stay h j
    rw [← Nat.add_assoc, tlS_halt (by rw [ih]; omega), ih]
theorem tlD_snoc {t : List Nd} {k j : Nat} {s : Tl} {l : List En} {e : En} (h : l[j]? = some e) : tlD t k s (l.take (j + 1)) = tlE t ((k : Int) + 1) (tlD t k s (l.take j)) e.2 e.1 := by
  unfold tlD
  rw [List.take_add_one, h, List.foldl_append]
  rfl
/-- What was told stands for nodes, each once. -/
def okS (t : List Nd) (s : Tl) : Prop := s.1.Nodup ∧ ∀ i ∈ s.1, tis t i = true
theorem okS_E {t : List Nd} {s : Tl} {p i : Int} {nm : Nm} (h : okS t s) (hi : tis t i = true) : okS t (tlE t p s i nm) := by
  unfold tlE
  split
  · exact h
  · rename_i q
    refine ⟨List.nodup_append.2 ⟨h.1, List.nodup_cons.2 ⟨List.not_mem_nil, List.nodup_nil⟩, fun a ha b hb => ?_⟩, fun j hj => ?_⟩
    · rw [List.mem_singleton] at hb
      subst hb
      rintro rfl
      exact q ha
    · rcases List.mem_append.1 hj with hj | hj
      · exact h.2 j hj
      · rw [List.mem_singleton] at hj
        rw [hj]; exact hi
theorem okS_D {t : List Nd} {k : Nat} : ∀ {l : List En} {s : Tl}, okS t s → (∀ e ∈ l, tis t e.2 = true) → okS t (tlD t k s l)
  | [], _, h, _ => h
  | e :: l, _, h, hl => okS_D (l := l) (okS_E h (hl e (List.mem_cons_self ..))) (fun f hf => hl f (List.mem_cons_of_mem _ hf))
/-- In a tree each entry has a node. -/
theorem all_ents {t : List Nd} (ho : okT t) (hl : t.length ≤ 24) (h : allT t []) (i : Int) (e : En) (he : e ∈ (tget t i).ents) : tis t e.2 = true := by
  by_cases q : 1 ≤ i ∧ i ≤ t.length
  · have h1 : i = (((i - 1).toNat : Nat) : Int) + 1 := by omega
    have h2 := h.2.2 (i - 1).toNat (by omega)
    rw [← h1] at h2
    unfold nodeT at h2
    by_cases k2 : (tget t i).kind = 2
    · rw [if_pos k2, Bool.and_eq_true] at h2
      exact List.all_eq_true.1 h2.1 e he
    · have hm : tget t i ∈ t := by rw [h1, tget_at (by omega)]; exact List.getElem_mem _
      rw [ok_ents ho hm k2] at he
      cases he
  · rw [tget_out q] at he; cases he
theorem okS_all {t : List Nd} (ho : okT t) (hl : t.length ≤ 24) (h : allT t []) : ∀ k, okS t (tlS t k)
  | 0 => okS_E ⟨List.nodup_nil, fun i hi => by cases hi⟩ (by unfold tis; rw [h.1]; rfl)
  | k + 1 => by
    have ih := okS_all ho hl h k
    rw [tlS]
    split
    · exact okS_D ih (fun e he => all_ents ho hl h _ e he)
    · exact ih
theorem okS_len {t : List Nd} {s : Tl} (h : okS t s) : s.1.length ≤ t.length := pig t.length s.1 h.1 (fun x hx => tis_in (h.2 x hx))
/-- How much is told. -/
theorem tlE_len (t : List Nd) (p : Int) (s : Tl) (i : Int) (nm : Nm) : (tlE t p s i nm).2.length = s.2.length + 1 ∧ s.1.length ≤ (tlE t p s i nm).1.length := by
  unfold tlE
  split
  · exact ⟨by rw [List.length_append]; rfl, Nat.le_refl _⟩
  · exact ⟨by rw [List.length_append]; rfl, by rw [List.length_append]; omega⟩
theorem tlD_len (t : List Nd) (k : Nat) : ∀ (l : List En) (s : Tl), (tlD t k s l).2.length = s.2.length + l.length ∧ s.1.length ≤ (tlD t k s l).1.length
  | [], s => ⟨rfl, Nat.le_refl _⟩
  | e :: l, s => by
    have ih := tlD_len t k l (tlE t ((k : Int) + 1) s e.2 e.1)
    have h := tlE_len t ((k : Int) + 1) s e.2 e.1
    have e1 : tlD t k s (e :: l) = tlD t k (tlE t ((k : Int) + 1) s e.2 e.1) l := rfl
    rw [e1, List.length_cons]
    exact ⟨by omega, by omega⟩
theorem ents_le {t : List Nd} (ho : okT t) (i : Int) : (tget t i).ents.length ≤ 8 := by
  rcases ok_tget ho i with q | q
  · rw [q]; exact Nat.zero_le _
  · rcases q.2 with q | q | q
    · rw [q.2.1]; exact Nat.zero_le _
    · exact q.2.2.2.2.2
    · rw [q.2.2.1]; exact Nat.zero_le _
theorem tlS_len {t : List Nd} (ho : okT t) : ∀ k, (tlS t k).2.length ≤ 1 + 8 * k
  | 0 => by rw [tlS, (tlE_len ..).1]; exact Nat.le_refl _
  | k + 1 => by
    have ih := tlS_len ho k
    rw [tlS]
    split
    · rename_i i hi
      rw [(tlD_len ..).1]
      have := ents_le ho i
      omega
    · omega
theorem tlS_grow (t : List Nd) (k : Nat) : (tlS t k).1.length ≤ (tlS t (k + 1)).1.length := by
  rw [tlS]
  split
  · exact (tlD_len ..).2
  · exact Nat.le_refl _
end Go.Proofs.YtfopnfgfoicidaaGreat
namespace Go.Proofs.YtfopnfgfoicidaaGreat
open Go Go.RowKit
set_option maxRecDepth 100000

attribute [local go_sem] cell_off4 cell_blk4
/-- The cells of a row of Raws. -/
def rCells (l : List (Rw × Value)) : List Value := l.flatMap (fun q => (rwC q.1 q.2).toList)
theorem rCells_snoc (l : List (Rw × Value)) (r : Rw) (v : Value) : rCells l ++ (rwC r v).toList = rCells (l ++ [(r, v)]) := by simp [rCells]
theorem rCells_len : ∀ l : List (Rw × Value), (rCells l).length = l.length * 9
  | [] => rfl
  | q :: l => by
    have ih := rCells_len l
    have e : rCells (q :: l) = (rwC q.1 q.2).toList ++ rCells l := rfl
    rw [e, List.length_append, ih, List.length_cons]
    show 9 + l.length * 9 = (l.length + 1) * 9
    omega
theorem rCells_at : ∀ (l : List (Rw × Value)) (k j : Nat) (q : Rw × Value), l[k]? = some q → j < 9 → (rCells l)[k * 9 + j]? = (rwC q.1 q.2).toList[j]?
  | [], k, j, q, h, _ => by simp at h
  | p :: l, 0, j, q, h, hj => by
    have : p = q := by simpa using h
    subst this
    have e : rCells (p :: l) = (rwC p.1 p.2).toList ++ rCells l := rfl
    rw [e, Nat.zero_mul, Nat.zero_add, List.getElem?_append_left (by show j < 9; exact hj)]
  | p :: l, k + 1, j, q, h, hj => by
    have e : rCells (p :: l) = (rwC p.1 p.2).toList ++ rCells l := rfl
    rw [e, List.getElem?_append_right (by show 9 ≤ _; omega)]
    have := rCells_at l k j q (by simpa using h) hj
    rw [← this]
    congr 1
    show (k + 1) * 9 + j - 9 = k * 9 + j
    omega
/-- A row of Raws of the call's own. -/
def RawsX (w : World) (B : Nat) (v : Value) (l : List Rw) : Prop := ∃ ps : List (Rw × Value), ps.map Prod.fst = l ∧ w.ownsRow B 72 9 v l.length (rCells ps) ∧ ∀ q ∈ ps, BytesT w q.2 q.1.data
theorem RawsX.below {w w' : World} {B : Nat} {v : Value} {l : List Rw} (h : RawsX w B v l) (hb : Below w.heap.size w w') : RawsX w' B v l := by
  obtain ⟨ps, h1, h2, h3⟩ := h
  exact ⟨ps, h1, own_below h2 hb, fun q hq => (h3 q hq).below hb⟩
theorem RawsX.nil (w : World) (B : Nat) : RawsX w B (.slice none 0 0) [] := ⟨[], rfl, World.ownsRow_nil _ _ _ _, fun q hq => by cases hq⟩
theorem RawsX.raws {w : World} {B : Nat} {v : Value} {l : List Rw} (h : RawsX w B v l) : RawsR w v l := by
  obtain ⟨ps, rfl, h2, h3⟩ := h
  rcases h2.2 with ⟨rfl, h0⟩ | ⟨g, cap, cur, rfl, hB, hh, hx⟩
  · have hz : ps = [] := by
      rw [List.length_map] at h0
      exact List.length_eq_zero_iff.1 h0
    subst hz
    exact RawsR.nil w
  · refine ⟨some ⟨g, 0, none⟩, cap, rfl, fun k r hk => ?_⟩
    rw [List.getElem?_map] at hk
    obtain ⟨q, hq, rfl⟩ := Option.map_eq_some_iff.1 hk
    have key : ∀ j u, j < 9 → (rwC q.1 q.2).toList[j]? = some u → w.cell? ⟨g, k * 9 + j, none⟩ = some u := fun j u hj hu =>
      row_at h2 _ _ (by rw [rCells_at ps k j q hq hj]; exact hu)
    have e0 : (⟨g, 0, none⟩ : Addr).add (k * 9) = ⟨g, k * 9, none⟩ := add_lit _ _
    refine ⟨⟨g, 0, none⟩, q.2, rfl, ?_, ?_, (h3 q (List.mem_of_getElem? hq)).1⟩
    · rw [e0]; exact key 0 _ (by decide) rfl
    · rw [e0]
      exact ⟨key 1 _ (by decide) rfl, key 2 _ (by decide) rfl, key 3 _ (by decide) rfl, key 4 _ (by decide) rfl, key 5 _ (by decide) rfl, key 6 _ (by decide) rfl, key 7 _ (by decide) rfl, key 8 _ (by decide) rfl⟩
theorem BytesT.row {w w' : World} {row : Option Nat} {v : Value} {l : List UInt8} (h : BytesT w v l) (hg : w.grownBy w' row) (hne : ∀ (b : Nat) (cs : Array Value), Blk w b 5 cs → some b ≠ row) : BytesT w' v l := by
  obtain ⟨⟨A, c, rfl, hc⟩, h2⟩ := h
  refine ⟨⟨A, c, rfl, fun k e hk => ?_⟩, fun ad n c' hv => ?_⟩
  · obtain ⟨ad, hA, h0⟩ := hc k e hk
    refine ⟨ad, hA, ?_⟩
    subst hA
    obtain ⟨cs, hb⟩ := h2 ad _ _ rfl
    have e1 : (ad.add k).block = ad.block := by unfold Addr.add; split <;> rfl
    rw [← h0]
    exact World.cell?_of_block (hg.block _ (World.block_lt_of_cell? _ _ h0) (by rw [e1]; exact hne _ _ hb))
  · obtain ⟨cs, hb⟩ := h2 ad n c' hv
    exact ⟨cs, hb.kept hg (hne _ _ hb)⟩
theorem EntsT.row {w w' : World} {row : Option Nat} {v : Value} {l : List En} (h : EntsT w v l) (hg : w.grownBy w' row) (hne : ∀ (b : Nat) (cs : Array Value), Blk w b 109 cs → some b ≠ row) : EntsT w' v l := by
  obtain ⟨⟨A, c, rfl, hc⟩, h2⟩ := h
  refine ⟨⟨A, c, rfl, fun k e hk => ?_⟩, fun ad n c' hv => ?_⟩
  · obtain ⟨ad, hA, h0, h1⟩ := hc k e hk
    refine ⟨ad, hA, ?_⟩
    subst hA
    obtain ⟨cs, hb⟩ := h2 ad _ _ rfl
    have e1 : (ad.add (k * 2)).block = ad.block := by unfold Addr.add; split <;> rfl
    have key : ∀ (p : Addr) (u : Value), p.block = ad.block → w.cell? p = some u → w'.cell? p = some u := by
      intro p u hp hu
      rw [← hu]
      exact World.cell?_of_block (hg.block _ (World.block_lt_of_cell? _ _ hu) (by rw [hp]; exact hne _ _ hb))
    exact ⟨key _ _ e1 h0, key _ _ e1 h1⟩
  · obtain ⟨cs, hb⟩ := h2 ad n c' hv
    exact ⟨cs, hb.kept hg (hne _ _ hb)⟩
theorem RawsX.kept {w w' : World} {row : Option Nat} {B : Nat} {v : Value} {l : List Rw} (h : RawsX w B v l) (hg : w.grownBy w' row) (h1 : v.ownBlock = none ∨ v.ownBlock ≠ row) (h2 : ∀ (b : Nat) (cs : Array Value), Blk w b 5 cs → some b ≠ row) : RawsX w' B v l := by
  obtain ⟨ps, e, h3, h4⟩ := h
  exact ⟨ps, e, h3.kept hg h1, fun q hq => (h4 q hq).row hg h2⟩
/-- What the closure has caught. -/
structure TS (w0 W : World) (jt jr jg : Nat) (v vt vr : Value) (s : Tl) : Prop where
  below : Below w0.heap.size w0 W
  kt : Blk W jt 23 #[vt]
  kr : Blk W jr 22 #[vr]
  kg : Blk W jg 58 #[.func (.func 21) #[v] #[]]
  ot : W.ownsRow w0.heap.size 3 1 vt s.1.length (iCells s.1)
  or_ : RawsX W w0.heap.size vr s.2
  ht : w0.heap.size ≤ jt
  hr : w0.heap.size ≤ jr
section
variable {w0 W W' : World} {jt jr jg : Nat} {v vt vr v' : Value} {s : Tl}
theorem TS.later (h : TS w0 W jt jr jg v vt vr s) (hb : Below W.heap.size W W') : TS w0 W' jt jr jg v vt vr s :=
  ⟨bt hb h.below, h.kt.below hb, h.kr.below hb, h.kg.below hb, own_below h.ot hb, h.or_.below hb, h.ht, h.hr⟩
theorem own_no_u8 {w : World} {B : Nat} {e : TypeId} {size n : Nat} {v : Value} {xs : List Value} (h : w.ownsRow B e size v n xs) (hne : e ≠ 5) : ∀ (b : Nat) (cs : Array Value), Blk w b 5 cs → some b ≠ v.ownBlock := fun _ _ hb e2 => own_blk_ne h hb hne e2.symm
/-- A number more. -/
theorem TS.putT {i : Int} (h : TS w0 W jt jr jg v vt vr s) (ho : W'.ownsRow w0.heap.size 3 1 v' (s.1.length + 1) (iCells s.1 ++ [.int .i64 i])) (hg : W.grownBy W' vt.ownBlock) : TS w0 (W'.setCell ⟨jt, 0, none⟩ v') jt jr jg v v' vr (s.1 ++ [i], s.2) ∧ W'.cell? ⟨jt, 0, none⟩ = some vt ∧ W'.frozen? ⟨jt, 0, none⟩ = false := by
  have k1 := h.kt.kept hg (own_blk_ne h.ot h.kt (by decide)).symm
  have k2 := h.kr.kept hg (own_blk_ne h.ot h.kr (by decide)).symm
  have k3 := h.kg.kept hg (own_blk_ne h.ot h.kg (by decide)).symm
  obtain ⟨ps, e1, h3, h4⟩ := h.or_
  have o1 : RawsX W' w0.heap.size vr s.2 := RawsX.kept ⟨ps, e1, h3, h4⟩ hg (own_apart h.ot h3 (by decide)) (own_no_u8 h.ot (by decide))
  have b1 := h.below.grown hg h.below.size (fun q hq => (h.ot.lt q hq).1)
  have hs := grown_setCell W' ⟨jt, 0, none⟩ v'
  refine ⟨⟨below_grown b1 hs h.ht, k1.set_ 0 v', k2.kept hs (by intro e; injection e with e; exact blk_ne k2 k1 (by decide) e), k3.kept hs (by intro e; injection e with e; exact blk_ne k3 k1 (by decide) e), ?_, ?_, h.ht, h.hr⟩, k1.cell 0, k1.frozen 0⟩
  · rw [iCells_snoc] at ho
    rw [List.length_append]
    exact ho.kept hs (.inr (own_blk_ne ho k1 (by decide)))
  · obtain ⟨ps, e1, h3, h4⟩ := o1
    exact RawsX.kept ⟨ps, e1, h3, h4⟩ hs (.inr (own_blk_ne h3 k1 (by decide))) (fun b cs hb e => by injection e with e; exact blk_ne hb k1 (by decide) e)
/-- A Raw more. -/
theorem TS.putR {r : Rw} {vd : Value} (h : TS w0 W jt jr jg v vt vr s) {ps : List (Rw × Value)} (e1 : ps.map Prod.fst = s.2) (h3 : W.ownsRow w0.heap.size 72 9 vr s.2.length (rCells ps)) (h4 : ∀ q ∈ ps, BytesT W q.2 q.1.data) (hd : BytesT W vd r.data) (ho1 : W'.ownsRow w0.heap.size 72 9 v' (s.2.length + 1) (rCells ps ++ (rwC r vd).toList)) (hg : W.grownBy W' vr.ownBlock) : TS w0 (W'.setCell ⟨jr, 0, none⟩ v') jt jr jg v vt v' (s.1, s.2 ++ [r]) ∧ W'.cell? ⟨jr, 0, none⟩ = some vr ∧ W'.frozen? ⟨jr, 0, none⟩ = false := by
  have k1 := h.kt.kept hg (own_blk_ne h3 h.kt (by decide)).symm
  have k2 := h.kr.kept hg (own_blk_ne h3 h.kr (by decide)).symm
  have k3 := h.kg.kept hg (own_blk_ne h3 h.kg (by decide)).symm
  have o1 := h.ot.kept hg (own_apart h3 h.ot (by decide))
  have b1 := h.below.grown hg h.below.size (fun q hq => (h3.lt q hq).1)
  have hs := grown_setCell W' ⟨jr, 0, none⟩ v'
  refine ⟨⟨below_grown b1 hs h.hr, k1.kept hs (by intro e; injection e with e; exact blk_ne k1 k2 (by decide) e), k2.set_ 0 v', k3.kept hs (by intro e; injection e with e; exact blk_ne k3 k2 (by decide) e), o1.kept hs (.inr (own_blk_ne o1 k2 (by decide))), ?_, h.ht, h.hr⟩, k2.cell 0, k2.frozen 0⟩
  rw [rCells_snoc] at ho1
  have hx : RawsX W' w0.heap.size v' (s.2 ++ [r]) := by
    refine ⟨ps ++ [(r, vd)], by rw [List.map_append, e1]; rfl, by rw [List.length_append]; exact ho1, fun q hq => ?_⟩
    rcases List.mem_append.1 hq with hq | hq
    · exact (h4 q hq).row hg (own_no_u8 h3 (by decide))
    · rw [List.mem_singleton] at hq
      subst hq
      exact hd.row hg (own_no_u8 h3 (by decide))
  obtain ⟨ps2, e2, h5, h6⟩ := hx
  exact RawsX.kept ⟨ps2, e2, h5, h6⟩ hs (.inr (own_blk_ne h5 k2 (by decide))) (fun b cs hb e => by injection e with e; exact blk_ne hb k2 (by decide) e)
/-- Entries that lie elsewhere stay. -/
theorem TS.entsT {ve : Value} {le : List En} (h : TS w0 W jt jr jg v vt vr s) (hg : W.grownBy W' vt.ownBlock) (he : EntsT W ve le) : EntsT (W'.setCell ⟨jt, 0, none⟩ v') ve le :=
  (he.row hg (fun _ _ hb e => own_blk_ne h.ot hb (by decide) e.symm)).row (grown_setCell W' ⟨jt, 0, none⟩ v') (fun b cs hb e => by injection e with e; exact blk_ne hb (h.kt.kept hg (own_blk_ne h.ot h.kt (by decide)).symm) (by decide) e)
theorem TS.entsR {ve : Value} {le : List En} {ps : List (Rw × Value)} (h : TS w0 W jt jr jg v vt vr s) (h3 : W.ownsRow w0.heap.size 72 9 vr s.2.length (rCells ps)) (hg : W.grownBy W' vr.ownBlock) (he : EntsT W ve le) : EntsT (W'.setCell ⟨jr, 0, none⟩ v') ve le :=
  (he.row hg (fun _ _ hb e => own_blk_ne h3 hb (by decide) e.symm)).row (grown_setCell W' ⟨jr, 0, none⟩ v') (fun b cs hb e => by injection e with e; exact blk_ne hb (h.kr.kept hg (own_blk_ne h3 h.kr (by decide)).symm) (by decide) e)
end
theorem info_raw : (Tryz.prog.info? 72).map (fun i => (i.zero, i.size, i.bytes)) = some (some (.agg rwZ), 9, 104) := by kernel_rfl
theorem raw_one (r : Rw) (A : Option Addr) (n c : Nat) : ∀ u ∈ (rwC r (.slice A n c)).toList, u.oneCell' = true := by
  intro u hu
  simp only [List.mem_cons, List.not_mem_nil, or_false] at hu
  rcases hu with rfl | rfl | rfl | rfl | rfl | rfl | rfl | rfl | rfl <;> rfl
theorem idx_first {n : Int} : ∀ {l : List Int} {k : Nat} (hk : k < l.length), (∀ j (hj : j < k), ¬ l[j] = n) → l[k] = n → l.idxOf n = k
  | [], k, hk, _, _ => absurd hk (Nat.not_lt_zero _)
  | a :: l, 0, _, _, h2 => by
    have : a = n := h2
    rw [this, List.idxOf_cons_self]
  | a :: l, k + 1, hk, h1, h2 => by
    have h0 : ¬ a = n := h1 0 (Nat.succ_pos _)
    have ih := idx_first (l := l) (k := k) (by rw [List.length_cons] at hk; omega) (fun j hj => h1 (j + 1) (by omega)) (by simpa using h2)
    rw [List.idxOf_cons, show (a == n) = false by simpa using h0, cond_false, ih]
set_option maxHeartbeats 4000000 in
/-- Where a number stands. -/
theorem sidx_any (v : Value) (l : List Int) (n : Int) (w : World) (h : IntsR w v l) (hl : l.length ≤ 1000) :
    Calls Tryz.prog 156 #[v, .int .i64 n] w fun e w' => e = .returned (.int .i64 (ixI l n)) ∧ w = w' := by
  obtain ⟨X, hX⟩ : ∃ X, ixI l n = X := ⟨_, rfl⟩
  rw [hX]
  have HY := Lib.hid (fun (k : Nat) (hk : k < l.length) (h1 : ∀ j (hj : j < k), ¬ l[j] = n) (h2 : l[k] = n) => show (k : Int) = X by
    rw [← hX]
    have hm : n ∈ l := h2 ▸ List.getElem_mem hk
    unfold ixI
    rw [if_pos hm]
    congr 1
    exact (idx_first hk h1 h2).symm)
  have HN := Lib.hid (fun (h1 : ∀ j (hj : j < l.length), ¬ l[j] = n) => show (-1 : Int) = X by
    rw [← hX]
    unfold ixI
    rw [if_neg]
    intro hm
    obtain ⟨j, hj, hj2⟩ := List.getElem_of_mem hm
    exact h1 j hj hj2)
  obtain ⟨A, c, rfl⟩ := ints_form h rfl
  have HE := Lib.hid h
  clear h hX
  go_enter Tryz.func156, Tryz.ntmps156
  go_wp2
  go_loopg [8] l.length (fun gh s8 wr => ∃ k : Nat, s8 = .int .i64 k ∧ k ≤ l.length ∧ gh = l.length - k ∧ (∀ j (hj : j < k) (hl : j < l.length), ¬ l[j] = n) ∧ w = wr)
  case atStart => exact ⟨0, rfl, Nat.zero_le _, rfl, fun j hj => absurd hj (Nat.not_lt_zero _), rfl⟩
  case round =>
    obtain ⟨k, rfl, hk, rfl, hx, rfl⟩ := hrel
    have HX := Lib.hid hx
    clear hx
    by_cases hlt : k < l.length
    · have hlt' : (k : Int) < (l.length : Int) := by omega
      obtain ⟨a, hka⟩ : ∃ a, l[k]? = some a := ⟨_, List.getElem?_eq_getElem hlt⟩
      obtain ⟨ad, hA, d0⟩ := ints_get HE.out hka
      subst hA
      have hka2 : l[k] = a := (List.getElem?_eq_some_iff.1 hka).2
      by_cases q : a = n
      · have q2 : (n == a) = true := by simpa using q.symm
        have HF := Lib.hid (HY.out k hlt (fun j hj => HX.out j hj (by omega)) (by rw [hka2]; exact q))
        clear q hka hka2
        go_wp2
        go_ret
        exact ⟨ret_int HF.out, rfl⟩
      · have q2 : (n == a) = false := by
          rw [Bool.eq_false_iff]
          simp only [ne_eq, beq_iff_eq]
          exact fun h => q h.symm
        have HQ := Lib.hid (show ¬ l[k] = n by rw [hka2]; exact q)
        clear q hka hka2
        go_wp2
        go_roundg (l.length - (k + 1))
        case measure => omega
        case rel => exact ⟨k + 1, by go_num, by omega, rfl, (fun j hj hl => by
          by_cases e : j = k
          · subst e; exact HQ.out
          · exact HX.out j (by omega) hl), rfl⟩
    · have hlt' : ¬ (k : Int) < (l.length : Int) := by omega
      have HF := Lib.hid (HN.out (fun j hj => HX.out j (by omega) hj))
      go_wp2
      go_ret
      exact ⟨ret_int HF.out, rfl⟩
/-- Just as long as the closure has caught what it has. -/
theorem TS.toldR {w0 W : World} {jt jr jg : Nat} {v vt vr : Value} {s : Tl} (h : TS w0 W jt jr jg v vt vr s) : IntsR W vt s.1 := IntsR.of_own h.ot
theorem ts_form {w0 W : World} {jt jr jg : Nat} {v vt vr : Value} {s : Tl} (h : TS w0 W jt jr jg v vt vr s) : ∃ A c A' c', vt = .slice A s.1.length c ∧ vr = .slice A' s.2.length c' := by
  obtain ⟨A, c, rfl⟩ := own_slice h.ot
  obtain ⟨ps, e1, h3, h4⟩ := h.or_
  obtain ⟨A', c', rfl⟩ := own_slice h3
  exact ⟨A, c, A', c', rfl, rfl⟩
end Go.Proofs.YtfopnfgfoicidaaGreat
