/-
  The calls of package look. The conditions are said at each. The calls of package build. The conditions are said at each. The statements' built; the tree of the document's example. The conditions are said at each. What package plant's calls answer, as statements: their proofs come from the code. No condition. Package files' answers, as plain mathematics: flags, files that are opened, read and written. The conditions are said at each.
-/
import Derived.Test.YtnkjaocmfhjnoaaGreatE3
import Derived.Test.YtnkjaocmfhjnoaaGreatE4
import Derived.Test.YtnkjaocmfhjnoaaGreatE6
import Derived.Test.YtnkjaocmfhjnoaaGreatE7
import Derived.Test.YtnkjaocmfhjnoaaGreatE8
import Derived.Deep.RegionWith
import Derived.Deep.RegionHeld3
namespace Go.Proofs.YtnkjaocmfhjnoaaGreat
open Go Go.RowKit
set_option maxRecDepth 100000

attribute [local go_sem] cell_off4 cell_blk4
end Go.Proofs.YtnkjaocmfhjnoaaGreat
namespace Go.Proofs.YtnkjaocmfhjnoaaGreat
open Go Go.RowKit
set_option maxRecDepth 100000

attribute [local go_sem] cell_off4 cell_blk4
end Go.Proofs.YtnkjaocmfhjnoaaGreat
namespace Go.Proofs.YtnkjaocmfhjnoaaGreat
open Go Go.RowKit
set_option maxRecDepth 100000

attribute [local go_sem] cell_off4 cell_blk4
theorem strs_none (W : World) : StrsR W (.slice none 0 0) (nmA ([] : List Nm)) := ⟨none, 0, rfl, ⟨Nat.le_refl _, fun _ => rfl⟩, fun k s h => by simp [nmA] at h⟩
end Go.Proofs.YtnkjaocmfhjnoaaGreat
namespace Go.Proofs.YtnkjaocmfhjnoaaGreat
open Go Go.RowKit
set_option maxRecDepth 100000

attribute [local go_sem] cell_off4 cell_blk4
abbrev rwC (r : Rw) (vd : Value) : Array Value := #[.int .i64 r.kind, .int .i64 r.mode, .int .i64 r.uid, .int .i64 r.gid, .int .i64 r.parent, .string (bA r.name), vd, .string (bA r.target), .int .i64 r.node]
def put9 (w : World) (g : Nat) (u0 u1 u2 u3 u4 u5 u6 u7 u8 : Value) : World := (((((((((w.setCell ⟨g, 0, none⟩ u0).setCell ⟨g, 1, none⟩ u1).setCell ⟨g, 2, none⟩ u2).setCell ⟨g, 3, none⟩ u3).setCell ⟨g, 4, none⟩ u4).setCell ⟨g, 5, none⟩ u5).setCell ⟨g, 6, none⟩ u6).setCell ⟨g, 7, none⟩ u7).setCell ⟨g, 8, none⟩ u8)
section
variable {w : World} {g : Nat} {t : TypeId} {a0 a1 a2 a3 a4 a5 a6 a7 a8 : Value}
theorem Blk.set9_0 (h : Blk w g t #[a0, a1, a2, a3, a4, a5, a6, a7, a8]) (u : Value) : Blk (w.setCell ⟨g, 0, none⟩ u) g t #[u, a1, a2, a3, a4, a5, a6, a7, a8] := by simpa using h.set_ 0 u
theorem Blk.set9_1 (h : Blk w g t #[a0, a1, a2, a3, a4, a5, a6, a7, a8]) (u : Value) : Blk (w.setCell ⟨g, 1, none⟩ u) g t #[a0, u, a2, a3, a4, a5, a6, a7, a8] := by simpa using h.set_ 1 u
theorem Blk.set9_2 (h : Blk w g t #[a0, a1, a2, a3, a4, a5, a6, a7, a8]) (u : Value) : Blk (w.setCell ⟨g, 2, none⟩ u) g t #[a0, a1, u, a3, a4, a5, a6, a7, a8] := by simpa using h.set_ 2 u
theorem Blk.set9_3 (h : Blk w g t #[a0, a1, a2, a3, a4, a5, a6, a7, a8]) (u : Value) : Blk (w.setCell ⟨g, 3, none⟩ u) g t #[a0, a1, a2, u, a4, a5, a6, a7, a8] := by simpa using h.set_ 3 u
theorem Blk.set9_4 (h : Blk w g t #[a0, a1, a2, a3, a4, a5, a6, a7, a8]) (u : Value) : Blk (w.setCell ⟨g, 4, none⟩ u) g t #[a0, a1, a2, a3, u, a5, a6, a7, a8] := by simpa using h.set_ 4 u
theorem Blk.set9_5 (h : Blk w g t #[a0, a1, a2, a3, a4, a5, a6, a7, a8]) (u : Value) : Blk (w.setCell ⟨g, 5, none⟩ u) g t #[a0, a1, a2, a3, a4, u, a6, a7, a8] := by simpa using h.set_ 5 u
theorem Blk.set9_6 (h : Blk w g t #[a0, a1, a2, a3, a4, a5, a6, a7, a8]) (u : Value) : Blk (w.setCell ⟨g, 6, none⟩ u) g t #[a0, a1, a2, a3, a4, a5, u, a7, a8] := by simpa using h.set_ 6 u
theorem Blk.set9_7 (h : Blk w g t #[a0, a1, a2, a3, a4, a5, a6, a7, a8]) (u : Value) : Blk (w.setCell ⟨g, 7, none⟩ u) g t #[a0, a1, a2, a3, a4, a5, a6, u, a8] := by simpa using h.set_ 7 u
theorem Blk.set9_8 (h : Blk w g t #[a0, a1, a2, a3, a4, a5, a6, a7, a8]) (u : Value) : Blk (w.setCell ⟨g, 8, none⟩ u) g t #[a0, a1, a2, a3, a4, a5, a6, a7, u] := by simpa using h.set_ 8 u
theorem Blk.c9 (h : Blk w g t #[a0, a1, a2, a3, a4, a5, a6, a7, a8]) : w.cell? ⟨g, 0, none⟩ = some a0 ∧ w.cell? ⟨g, 1, none⟩ = some a1 ∧ w.cell? ⟨g, 2, none⟩ = some a2 ∧ w.cell? ⟨g, 3, none⟩ = some a3 ∧ w.cell? ⟨g, 4, none⟩ = some a4 ∧ w.cell? ⟨g, 5, none⟩ = some a5 ∧ w.cell? ⟨g, 6, none⟩ = some a6 ∧ w.cell? ⟨g, 7, none⟩ = some a7 ∧ w.cell? ⟨g, 8, none⟩ = some a8 := ⟨h.cell 0, h.cell 1, h.cell 2, h.cell 3, h.cell 4, h.cell 5, h.cell 6, h.cell 7, h.cell 8⟩
theorem Blk.f9 (h : Blk w g t #[a0, a1, a2, a3, a4, a5, a6, a7, a8]) : w.frozen? ⟨g, 0, none⟩ = false ∧ w.frozen? ⟨g, 1, none⟩ = false ∧ w.frozen? ⟨g, 2, none⟩ = false ∧ w.frozen? ⟨g, 3, none⟩ = false ∧ w.frozen? ⟨g, 4, none⟩ = false ∧ w.frozen? ⟨g, 5, none⟩ = false ∧ w.frozen? ⟨g, 6, none⟩ = false ∧ w.frozen? ⟨g, 7, none⟩ = false ∧ w.frozen? ⟨g, 8, none⟩ = false := ⟨h.frozen 0, h.frozen 1, h.frozen 2, h.frozen 3, h.frozen 4, h.frozen 5, h.frozen 6, h.frozen 7, h.frozen 8⟩
theorem Blk.s9 (h : Blk w g t #[a0, a1, a2, a3, a4, a5, a6, a7, a8]) : (∀ u0, (w.setCell ⟨g, 0, none⟩ u0).cell? ⟨g, 0, none⟩ = some u0) ∧
    (∀ u0 u1, ((w.setCell ⟨g, 0, none⟩ u0).setCell ⟨g, 1, none⟩ u1).cell? ⟨g, 1, none⟩ = some u1) ∧
    (∀ u0 u1 u2, (((w.setCell ⟨g, 0, none⟩ u0).setCell ⟨g, 1, none⟩ u1).setCell ⟨g, 2, none⟩ u2).cell? ⟨g, 2, none⟩ = some u2) ∧
    (∀ u0 u1 u2 u3, ((((w.setCell ⟨g, 0, none⟩ u0).setCell ⟨g, 1, none⟩ u1).setCell ⟨g, 2, none⟩ u2).setCell ⟨g, 3, none⟩ u3).cell? ⟨g, 3, none⟩ = some u3) ∧
    (∀ u0 u1 u2 u3 u4, (((((w.setCell ⟨g, 0, none⟩ u0).setCell ⟨g, 1, none⟩ u1).setCell ⟨g, 2, none⟩ u2).setCell ⟨g, 3, none⟩ u3).setCell ⟨g, 4, none⟩ u4).cell? ⟨g, 4, none⟩ = some u4) ∧
    (∀ u0 u1 u2 u3 u4 u5, ((((((w.setCell ⟨g, 0, none⟩ u0).setCell ⟨g, 1, none⟩ u1).setCell ⟨g, 2, none⟩ u2).setCell ⟨g, 3, none⟩ u3).setCell ⟨g, 4, none⟩ u4).setCell ⟨g, 5, none⟩ u5).cell? ⟨g, 5, none⟩ = some u5) ∧
    (∀ u0 u1 u2 u3 u4 u5 u6, (((((((w.setCell ⟨g, 0, none⟩ u0).setCell ⟨g, 1, none⟩ u1).setCell ⟨g, 2, none⟩ u2).setCell ⟨g, 3, none⟩ u3).setCell ⟨g, 4, none⟩ u4).setCell ⟨g, 5, none⟩ u5).setCell ⟨g, 6, none⟩ u6).cell? ⟨g, 6, none⟩ = some u6) ∧
    (∀ u0 u1 u2 u3 u4 u5 u6 u7, ((((((((w.setCell ⟨g, 0, none⟩ u0).setCell ⟨g, 1, none⟩ u1).setCell ⟨g, 2, none⟩ u2).setCell ⟨g, 3, none⟩ u3).setCell ⟨g, 4, none⟩ u4).setCell ⟨g, 5, none⟩ u5).setCell ⟨g, 6, none⟩ u6).setCell ⟨g, 7, none⟩ u7).cell? ⟨g, 7, none⟩ = some u7) ∧
    (∀ u0 u1 u2 u3 u4 u5 u6 u7 u8, (((((((((w.setCell ⟨g, 0, none⟩ u0).setCell ⟨g, 1, none⟩ u1).setCell ⟨g, 2, none⟩ u2).setCell ⟨g, 3, none⟩ u3).setCell ⟨g, 4, none⟩ u4).setCell ⟨g, 5, none⟩ u5).setCell ⟨g, 6, none⟩ u6).setCell ⟨g, 7, none⟩ u7).setCell ⟨g, 8, none⟩ u8).cell? ⟨g, 8, none⟩ = some u8) :=
  ⟨fun u0 => (h.set9_0 u0).cell 0,
    fun u0 u1 => ((h.set9_0 u0).set9_1 u1).cell 1,
    fun u0 u1 u2 => (((h.set9_0 u0).set9_1 u1).set9_2 u2).cell 2,
    fun u0 u1 u2 u3 => ((((h.set9_0 u0).set9_1 u1).set9_2 u2).set9_3 u3).cell 3,
    fun u0 u1 u2 u3 u4 => (((((h.set9_0 u0).set9_1 u1).set9_2 u2).set9_3 u3).set9_4 u4).cell 4,
    fun u0 u1 u2 u3 u4 u5 => ((((((h.set9_0 u0).set9_1 u1).set9_2 u2).set9_3 u3).set9_4 u4).set9_5 u5).cell 5,
    fun u0 u1 u2 u3 u4 u5 u6 => (((((((h.set9_0 u0).set9_1 u1).set9_2 u2).set9_3 u3).set9_4 u4).set9_5 u5).set9_6 u6).cell 6,
    fun u0 u1 u2 u3 u4 u5 u6 u7 => ((((((((h.set9_0 u0).set9_1 u1).set9_2 u2).set9_3 u3).set9_4 u4).set9_5 u5).set9_6 u6).set9_7 u7).cell 7,
    fun u0 u1 u2 u3 u4 u5 u6 u7 u8 => (((((((((h.set9_0 u0).set9_1 u1).set9_2 u2).set9_3 u3).set9_4 u4).set9_5 u5).set9_6 u6).set9_7 u7).set9_8 u8).cell 8⟩
end
theorem grown9 (w : World) (g : Nat) (u0 u1 u2 u3 u4 u5 u6 u7 u8 : Value) : w.grownBy (put9 w g u0 u1 u2 u3 u4 u5 u6 u7 u8) (some g) := by
  have h := fun (W : World) (i : Nat) (u : Value) => grown_setCell W ⟨g, i, none⟩ u
  exact (grown_trans (grown_trans (grown_trans (grown_trans (grown_trans (grown_trans (grown_trans (grown_trans (h _ _ _) (h _ _ _)) (h _ _ _)) (h _ _ _)) (h _ _ _)) (h _ _ _)) (h _ _ _)) (h _ _ _)) (h _ _ _))
structure AtW (w : World) (b o : Nat) (r : Rw) (vd : Value) : Prop where
  c1 : w.cell? ⟨b, o + 1, none⟩ = some (.int .i64 r.mode)
  c2 : w.cell? ⟨b, o + 2, none⟩ = some (.int .i64 r.uid)
  c3 : w.cell? ⟨b, o + 3, none⟩ = some (.int .i64 r.gid)
  c4 : w.cell? ⟨b, o + 4, none⟩ = some (.int .i64 r.parent)
  c5 : w.cell? ⟨b, o + 5, none⟩ = some (.string (bA r.name))
  c6 : w.cell? ⟨b, o + 6, none⟩ = some vd
  c7 : w.cell? ⟨b, o + 7, none⟩ = some (.string (bA r.target))
  c8 : w.cell? ⟨b, o + 8, none⟩ = some (.int .i64 r.node)
theorem AtW.below {w w' : World} {b o : Nat} {r : Rw} {vd : Value} (h : AtW w b o r vd) (hb : Below w.heap.size w w') : AtW w' b o r vd :=
  ⟨bc hb h.c1, bc hb h.c2, bc hb h.c3, bc hb h.c4, bc hb h.c5, bc hb h.c6, bc hb h.c7, bc hb h.c8⟩
def RawsR (w : World) (v : Value) (l : List Rw) : Prop := ∃ A c, v = .slice A l.length c ∧ ∀ (k : Nat) (r : Rw), l[k]? = some r → ∃ (ad : Addr) (vd : Value), A = some ad ∧
  w.cell? (ad.add (k * 9)) = some (.int .i64 r.kind) ∧ AtW w (ad.add (k * 9)).block (ad.add (k * 9)).off r vd ∧ BytesR w vd r.data
theorem RawsR.below {w w' : World} {v : Value} {l : List Rw} (h : RawsR w v l) (hb : Below w.heap.size w w') : RawsR w' v l := by
  obtain ⟨A, c, hv, hc⟩ := h
  refine ⟨A, c, hv, fun k r hk => ?_⟩
  obtain ⟨ad, vd, hA, h0, h1, h2⟩ := hc k r hk
  exact ⟨ad, vd, hA, bc hb h0, h1.below hb, h2.below hb⟩
theorem raws_form {w : World} {v : Value} {l : List Rw} (h : RawsR w v l) : ∃ A c, v = .slice A l.length c := by
  obtain ⟨A, c, rfl, -⟩ := h
  exact ⟨A, c, rfl⟩
theorem raws_get {w : World} {A : Option Addr} {n c : Nat} {l : List Rw} (h : RawsR w (.slice A n c) l) {k : Nat} {r : Rw} (hk : l[k]? = some r) : ∃ (ad : Addr) (vd : Value), A = some ad ∧
    w.cell? (ad.add (k * 9)) = some (.int .i64 r.kind) ∧ AtW w (ad.add (k * 9)).block (ad.add (k * 9)).off r vd ∧ BytesR w vd r.data := by
  obtain ⟨A', c', hv, hc⟩ := h
  injection hv with hA
  subst hA
  exact hc k r hk
def shortR (r : Rw) : Prop := r.name.length ≤ 40 ∧ r.data.length ≤ 100 ∧ r.target.length ≤ 100
def fewR (l : List Rw) : Prop := (∀ r ∈ l, shortR r) ∧ l.length ≤ 50
theorem shortR.few {r : Rw} (h : shortR r) : Few r.nd := ⟨by have := h.2.1; show r.data.length ≤ _; omega, Nat.zero_le _, (fun e he => by cases he), by have := h.2.2; show r.target.length ≤ _; omega⟩
set_option maxHeartbeats 4000000 in
theorem nodeOf_any (r : Rw) (A : Option Addr) (n c : Nat) (w : World) :
    Calls Tryz.prog 90 #[.agg (rwC r (.slice A n c))] w fun e w' => e = .returned (nodeV r.nd (.slice A n c) (.slice none 0 0)) ∧ Below w.heap.size w w' := by
  obtain ⟨W1, hW1⟩ : ∃ W1, W1 = (w.alloc (.cells (rwC r (.slice A n c)) 76)).alloc (.cells ndZ 65) := ⟨_, rfl⟩
  have hb1 : Below w.heap.size w W1 := by rw [hW1]; exact al (ba _ _) _
  have hkb : Blk W1 w.heap.size 76 (rwC r (.slice A n c)) := by rw [hW1]; exact (Blk.new _ _ _).alloc _
  have hkr : Blk W1 (w.heap.size + 1) 65 ndZ := by rw [hW1]; have := Blk.new (w.alloc (.cells (rwC r (.slice A n c)) 76)) 65 ndZ; simpa using this
  have HB := Lib.hid (below_grown hb1 (grown7 W1 (w.heap.size + 1) (.int .i64 r.kind) (.int .i64 r.mode) (.int .i64 r.uid) (.int .i64 r.gid) (.slice A n c) (.slice none 0 0) (.string (bA r.target))) (Nat.le_succ _))
  obtain ⟨p0, p1, p2, p3, p4, p5, p6, p7, p8⟩ := hkb.c9
  obtain ⟨f0, f1, f2, f3, f4, f5, f6⟩ := hkr.f7
  obtain ⟨r0, r1, r2, r3, r4, r5, r6⟩ := hkr.c7
  obtain ⟨s0, s1, s2, s3, s4, s5, s6⟩ := hkr.s7
  clear hb1 hkb hkr
  have hW2 := hW1.symm
  clear hW1
  go_enter Tryz.func90, Tryz.ntmps90
  go_wp2
  exact bodyPost_ret (v := nodeV r.nd (.slice A n c) (.slice none 0 0)) (by simp [results, Tryz.results90, go_sem, nodeV, Rw.nd, s0, s1, s2, s3, s4, s5, s6]) rfl ⟨rfl, HB.out⟩
end Go.Proofs.YtnkjaocmfhjnoaaGreat
namespace Go.Proofs.YtnkjaocmfhjnoaaGreat
open Go Go.RowKit
set_option maxRecDepth 100000

attribute [local go_sem] cell_off4 cell_blk4
theorem en_new {t : List Nd} {r : Rw} (h : ¬ r.kind = 4) (i : Int) : enE t r = addE t (toB (rightP r.nd)) ∧ enI t r = addI t (toB (rightP r.nd)) ∧ enT t r = actT t 1 i r.nd (toB (rightP r.nd)) := by
  have h1 : enE t r = addE t (toB (rightP r.nd)) := by unfold enE; rw [if_neg h]
  refine ⟨h1, ?_, ?_⟩
  · unfold enI
    rw [h1, if_neg h]
    unfold addI addE
    by_cases q : rightP r.nd
    · rw [toB_true q, if_neg (show ¬ (true = false) by decide), if_pos (show true = true from rfl)]
      by_cases q2 : freeT t 0 = 0
      · rw [if_pos q2, if_neg (show ¬ (28 : Int) = 0 by decide), q2]; rfl
      · rw [if_neg q2, if_pos rfl]
    · rw [toB_false q, if_pos rfl, if_neg (show ¬ (22 : Int) = 0 by decide), if_neg (show ¬ (false = true) by decide)]
  · unfold enT
    rw [h1, if_neg h]
    unfold actT addE
    rw [if_neg (show ¬ (1 : Int) = 0 by decide), if_pos rfl]
    by_cases q : rightP r.nd
    · rw [toB_true q, if_neg (show ¬ (true = false) by decide)]
      by_cases q2 : freeT t 0 = 0
      · rw [if_pos q2, if_neg (show ¬ (28 : Int) = 0 by decide), if_neg (fun h => h.2 q2)]
      · rw [if_neg q2, if_pos rfl, if_pos ⟨rfl, q2⟩]
    · rw [toB_false q, if_pos rfl, if_neg (show ¬ (22 : Int) = 0 by decide), if_neg (fun h => absurd h.1 (by decide))]
theorem ret_two {a b c d : Int} (h1 : a = c) (h2 : b = d) : Ending.returned (.tuple #[.int .i64 a, .int .i64 b]) = .returned (.tuple #[.int .i64 c, .int .i64 d]) := by rw [h1, h2]
set_option maxHeartbeats 4000000 in
theorem entry_any (g : Nat) (t : List Nd) (r : Rw) (A : Option Addr) (c : Nat) (w : World) (h : TabR w g t (fun _ => True)) (hd : BytesR w (.slice A r.data.length c) r.data) (hs : shortR r) :
    Calls Tryz.prog 88 #[.pointer (some ⟨g, 0, none⟩), .agg (rwC r (.slice A r.data.length c))] w fun e w' => e = .returned (.tuple #[.int .i64 (enI t r), .int .i64 (enE t r)]) ∧ TabR w' g (enT t r) (fun _ => True) ∧ w.grownBy w' (some g) := by
  obtain ⟨W1, hW1⟩ : ∃ W1, w.alloc (.cells (rwC r (.slice A r.data.length c)) 76) = W1 := ⟨_, rfl⟩
  have hb1 : Below w.heap.size w W1 := by rw [← hW1]; exact ba _ _
  have hk1 : Blk W1 w.heap.size 76 (rwC r (.slice A r.data.length c)) := by rw [← hW1]; exact Blk.new _ _ _
  have HB := Lib.hid hb1
  have HT := Lib.hid (h.below hb1)
  have HD := Lib.hid (hd.below hb1)
  have HK := Lib.hid hk1
  obtain ⟨p0, p1, p2, p3, p4, p5, p6, p7, p8⟩ := hk1.c9
  clear h hd hb1 hk1
  by_cases h4 : r.kind = 4
  · have e4 : (r.kind != 4) = false := by simpa using h4
    have HG := Lib.hid (get_any _ t r.node W1 HT.out.ptr)
    have hET : enT t r = t := by
      unfold enT
      rw [if_pos h4]
      split <;> rfl
    rw [hET]
    have HE := Lib.hid (show enE t r = if tis t r.node = false then 2 else if (tget t r.node).kind = 2 then 1 else 0 by unfold enE; rw [if_pos h4])
    have HI := Lib.hid (show enI t r = if enE t r = 0 then r.node else 0 by unfold enI; rw [if_pos h4])
    clear h4 hET
    generalize enE t r = X at HE HI ⊢
    generalize enI t r = I at HI ⊢
    generalize tget t r.node = n at HG HE
    go_enter Tryz.func88, Tryz.ntmps88
    go_wp2_with fail
    clear hW1
    refine HG.out.mono ?_
    rintro e w2 ⟨vd, ve, rfl, hd2, he2, -, -, hb2⟩
    obtain ⟨A5, k5, rfl⟩ := bytesT_form hd2
    obtain ⟨A6, k6, rfl⟩ := entsT_form he2
    have hkr := (HK.out.below hb2).alloc (.cells (ndC n (.slice A5 n.data.length k5) (.slice A6 n.ents.length k6)) 65)
    have hkn := Blk.new w2 65 (ndC n (.slice A5 n.data.length k5) (.slice A6 n.ents.length k6))
    have HB2 := Lib.hid (al (bt hb2 HB.out) (.cells (ndC n (.slice A5 n.data.length k5) (.slice A6 n.ents.length k6)) 65))
    have HT2 := Lib.hid (HT.out.below (al hb2 (.cells (ndC n (.slice A5 n.data.length k5) (.slice A6 n.ents.length k6)) 65)))
    obtain ⟨W3, hW3⟩ : ∃ W3, w2.alloc (.cells (ndC n (.slice A5 n.data.length k5) (.slice A6 n.ents.length k6)) 65) = W3 := ⟨_, rfl⟩
    rw [hW3] at hkr hkn HB2 HT2
    clear p0 p1 p2 p3 p4 p5 p6 p7 p8
    obtain ⟨p0, p1, p2, p3, p4, p5, p6, p7, p8⟩ := hkr.c9
    have n0 := hkn.c7.1
    clear hkr hkn hd2 he2 hb2
    unfold nodeV
    cases hX : tis t r.node
    · have hE := HE.out
      rw [hX, if_pos rfl] at hE
      have HI2 := Lib.hid (show (0 : Int) = I by rw [HI.out, hE]; rfl)
      have HE2 := Lib.hid hE.symm
      clear hE hX
      go_wp2
      go_ret2
      exact ⟨ret_two HI2.out HE2.out, HT2.out, grown_below HB2.out _⟩
    · have hE := HE.out
      rw [hX, if_neg (by decide)] at hE
      clear hX
      by_cases q : n.kind = 2
      · have e2 : (n.kind == 2) = true := by simpa using q
        rw [if_pos q] at hE
        have HI2 := Lib.hid (show (0 : Int) = I by rw [HI.out, hE]; rfl)
        have HE2 := Lib.hid hE.symm
        clear hE q
        go_wp2
        go_ret2
        exact ⟨ret_two HI2.out HE2.out, HT2.out, grown_below HB2.out _⟩
      · have e2 : (n.kind == 2) = false := by simpa using q
        rw [if_neg q] at hE
        have HI2 := Lib.hid (show r.node = I by rw [HI.out, hE]; rfl)
        have HE2 := Lib.hid hE.symm
        clear hE q
        go_wp2
        go_ret2
        exact ⟨ret_two HI2.out HE2.out, HT2.out, grown_below HB2.out _⟩
  · have e4 : (r.kind != 4) = true := by simpa using h4
    obtain ⟨h1, h2, h3⟩ := en_new (t := t) h4 0
    rw [h1, h2, h3]
    have HN := Lib.hid (nodeOf_any r A r.data.length c W1)
    have HA := Lib.hid (fun W (hb : Below W1.heap.size W1 W) => add_any g t (fun _ => True) r.nd (.slice A r.data.length c) (.slice none 0 0) W (HT.out.below hb) (HD.out.below hb) (EntsR.nil W) hs.few (fun _ _ => trivial) 0)
    clear h1 h2 h3 h4 hs
    go_enter Tryz.func88, Tryz.ntmps88
    go_wp2_with fail
    clear hW1
    refine HN.out.mono ?_
    rintro e w2 ⟨rfl, hb2⟩
    have HB2 := Lib.hid (bt hb2 HB.out)
    have HC := Lib.hid (HA.out w2 hb2)
    clear hb2 HA
    unfold nodeV at HC ⊢
    go_wp2_with fail
    refine HC.out.mono ?_
    rintro e w3 ⟨rfl, ht3, hg3⟩
    have HT3 := Lib.hid ht3
    have HG3 := Lib.hid (grown_trans (grown_below HB2.out (some g)) hg3)
    clear ht3 hg3
    go_wp2
    go_ret2
    exact ⟨rfl, HT3.out, HG3.out⟩
theorem grown_new {a b c : World} {g d : Nat} (h : a.grownBy b (some g)) (h' : b.grownBy c (some d)) (hd : a.heap.size ≤ d) : a.grownBy c (some g) :=
  ⟨h'.os.trans h.os, h'.tape.trans h.tape, h'.output.trans h.output, Nat.le_trans h.size h'.size, fun i hi hne => (h'.block i (Nat.lt_of_lt_of_le hi h.size) (by intro e; injection e with e; omega)).trans (h.block i hi hne)⟩
set_option maxHeartbeats 4000000 in
theorem root_any (g : Nat) (t : List Nd) (r : Rw) (A : Option Addr) (c : Nat) (w : World) (h : TabR w g t (fun _ => True)) (hd : BytesR w (.slice A r.data.length c) r.data) (hs : shortR r) :
    Calls Tryz.prog 54 #[.pointer (some ⟨g, 0, none⟩), .agg (rwC r (.slice A r.data.length c))] w fun e w' => e = .returned (.int .i64 (rtE t r)) ∧ w.grownBy w' (some g) ∧ (rtE t r = 0 → TabR w' g (rtT t r) (fun _ => True)) := by
  obtain ⟨W1, hW1⟩ : ∃ W1, w.alloc (.cells (rwC r (.slice A r.data.length c)) 76) = W1 := ⟨_, rfl⟩
  have hb1 : Below w.heap.size w W1 := by rw [← hW1]; exact ba _ _
  have hk1 : Blk W1 w.heap.size 76 (rwC r (.slice A r.data.length c)) := by rw [← hW1]; exact Blk.new _ _ _
  have HB := Lib.hid hb1
  have HT := Lib.hid (h.below hb1)
  have HD := Lib.hid (hd.below hb1)
  obtain ⟨p0, p1, p2, p3, p4, p5, p6, p7, p8⟩ := hk1.c9
  clear h hd hb1 hk1
  have HN := Lib.hid (nodeOf_any r A r.data.length c W1)
  have HA := Lib.hid (fun W (hb : Below W1.heap.size W1 W) => add_any g t (fun _ => True) r.nd (.slice A r.data.length c) (.slice none 0 0) W (HT.out.below hb) (HD.out.below hb) (EntsR.nil W) hs.few (fun _ _ => trivial) 0)
  by_cases q : r.kind ≠ 2 ∨ r.parent ≠ 0 ∨ r.name ≠ []
  · have hE : rtE t r = 22 := by unfold rtE; rw [if_pos q]
    rw [hE]
    have HX := Lib.hid (show (22 : Int) = 0 → ∀ W, TabR W g (rtT t r) (fun _ => True) from fun h => absurd h (by decide))
    clear hE hs HN HA
    by_cases q1 : r.kind = 2
    · have e1 : (r.kind != 2) = false := by simpa using q1
      by_cases q2 : r.parent = 0
      · have e2 : (r.parent != 0) = false := by simpa using q2
        have q3 : r.name ≠ [] := by
          rcases q with q | q | q
          · exact absurd q1 q
          · exact absurd q2 q
          · exact q
        have e3 : ((bA r.name).toList == ([] : List UInt8)) = false := by
          rw [Bool.eq_false_iff]
          intro h
          exact q3 ((len0_iff _).1 h)
        have e4 : ((bA r.name).toList != ([] : List UInt8)) = true := by
          show (!((bA r.name).toList == ([] : List UInt8))) = true
          rw [e3]; rfl
        clear q q1 q2 q3
        go_enter Tryz.func54, Tryz.ntmps54
        go_wp2
        go_ret
        exact ⟨rfl, grown_below HB.out _, fun h => HX.out h _⟩
      · have e2 : (r.parent != 0) = true := by simpa using q2
        clear q q1 q2
        go_enter Tryz.func54, Tryz.ntmps54
        go_wp2
        go_ret
        exact ⟨rfl, grown_below HB.out _, fun h => HX.out h _⟩
    · have e1 : (r.kind != 2) = true := by simpa using q1
      clear q q1
      go_enter Tryz.func54, Tryz.ntmps54
      go_wp2
      go_ret
      exact ⟨rfl, grown_below HB.out _, fun h => HX.out h _⟩
  · have hE : rtE t r = addE t (toB (rightP r.nd)) := by unfold rtE; rw [if_neg q]
    have q1 : r.kind = 2 := Classical.byContradiction (fun z => q (.inl z))
    have q2 : r.parent = 0 := Classical.byContradiction (fun z => q (.inr (.inl z)))
    have q3 : r.name = [] := Classical.byContradiction (fun z => q (.inr (.inr z)))
    have e1 : (r.kind != 2) = false := by simpa using q1
    have e2 : (r.parent != 0) = false := by simpa using q2
    have e3 : ((bA r.name).toList == ([] : List UInt8)) = true := (len0_iff _).2 q3
    have e4 : ((bA r.name).toList != ([] : List UInt8)) = false := by
      show (!((bA r.name).toList == ([] : List UInt8))) = false
      rw [e3]; rfl
    rw [hE]
    have HX := Lib.hid (show addE t (toB (rightP r.nd)) = 0 → rtT t r = actT t 1 0 r.nd (toB (rightP r.nd)) from fun h => by
      obtain ⟨h1, h2⟩ := addE_zero.1 h
      unfold rtT actT
      rw [if_neg (show ¬ (1 : Int) = 0 by decide), if_pos rfl, toB_true h1, if_pos ⟨rfl, h2⟩])
    clear q q1 q2 q3 hE hs
    go_enter Tryz.func54, Tryz.ntmps54
    go_wp2_with fail
    clear hW1
    refine HN.out.mono ?_
    rintro e w2 ⟨rfl, hb2⟩
    have HB2 := Lib.hid (bt hb2 HB.out)
    have HC := Lib.hid (HA.out w2 hb2)
    clear hb2 HA
    unfold nodeV at HC ⊢
    go_wp2_with fail
    refine HC.out.mono ?_
    rintro e w3 ⟨rfl, ht3, hg3⟩
    have HT3 := Lib.hid ht3
    have HG3 := Lib.hid (grown_trans (grown_below HB2.out (some g)) hg3)
    clear ht3 hg3
    go_wp2
    go_ret
    exact ⟨rfl, HG3.out, fun h => by rw [HX.out h]; exact HT3.out⟩
set_option maxHeartbeats 8000000 in
theorem below_any (g : Nat) (t : List Nd) (r : Rw) (A : Option Addr) (c : Nat) (w : World) (h : TabR w g t (fun _ => True)) (hd : BytesR w (.slice A r.data.length c) r.data) (hs : shortR r) :
    Calls Tryz.prog 53 #[.pointer (some ⟨g, 0, none⟩), .agg (rwC r (.slice A r.data.length c))] w fun e w' => e = .returned (.int .i64 (blE t r)) ∧ w.grownBy w' (some g) ∧ (blE t r = 0 → TabR w' g (blT t r) (fun _ => True)) := by
  obtain ⟨W1, hW1⟩ : ∃ W1, w.alloc (.cells (rwC r (.slice A r.data.length c)) 76) = W1 := ⟨_, rfl⟩
  have hb1 : Below w.heap.size w W1 := by rw [← hW1]; exact ba _ _
  have hk1 : Blk W1 w.heap.size 76 (rwC r (.slice A r.data.length c)) := by rw [← hW1]; exact Blk.new _ _ _
  have HGW := Lib.hid h.lt
  have HB := Lib.hid hb1
  have HT := Lib.hid (h.below hb1)
  have HDD := Lib.hid (show BytesR W1 (.slice A r.data.length c) r.data from hd.below hb1)
  have HK := Lib.hid hk1
  have HGW1 := Lib.hid hk1.lt
  have HS := Lib.hid hs
  obtain ⟨p0, p1, p2, p3, p4, p5, p6, p7, p8⟩ := hk1.c9
  have HG := Lib.hid (get_any _ t r.parent W1 HT.out.ptr)
  have HFD := Lib.hid (ok_few h.ok r.parent)
  have HRT := Lib.hid (show tis t r.parent = true → enE t r = 0 → withE (tget t r.parent) r.name (enI t r) = 0 → rightP (withM (tget t r.parent) r.name (enI t r)) from fun h1 _ h3 => (right_with (tis_right h.ok h1) h3).1)
  have HBL := Lib.hid (show blE t r = if tis t r.parent = false then 2 else if enE t r = 0 then withE (tget t r.parent) r.name (enI t r) else enE t r from rfl)
  have HBT := Lib.hid (show tis t r.parent = true → rightP (withM (tget t r.parent) r.name (enI t r)) → actT (enT t r) 0 r.parent (withM (tget t r.parent) r.name (enI t r)) (toB (rightP (withM (tget t r.parent) r.name (enI t r)))) = blT t r ∧ putE (enT t r) r.parent (toB (rightP (withM (tget t r.parent) r.name (enI t r)))) = 0 from fun h1 h2 => by
    have h3 : tis (enT t r) r.parent = true := en_tis h1
    constructor
    · unfold actT blT
      rw [if_pos rfl, if_pos ⟨h3, toB_true h2⟩]
    · unfold putE
      rw [h3, toB_true h2]
      rfl)
  have HEN := Lib.hid (fun W (ht : TabR W g t (fun _ => True)) (hb : BytesR W (.slice A r.data.length c) r.data) => entry_any g t r A c W ht hb HS.out)
  generalize blE t r = Z at HBL ⊢
  generalize blT t r = T2 at HBT ⊢
  generalize enE t r = X at HRT HBL HEN
  generalize enI t r = I at HRT HBL HBT HEN
  generalize enT t r = T1 at HBT HEN
  clear h hd hb1 hk1 hs
  obtain ⟨n, hn⟩ : ∃ n, tget t r.parent = n := ⟨_, rfl⟩
  rw [hn] at HG HRT HBL HBT HFD
  go_enter Tryz.func53, Tryz.ntmps53
  go_wp2_with fail
  clear hW1 hn
  refine HG.out.mono ?_
  rintro e w2 ⟨vd, ve, rfl, hd2, he2, hl2, hm2, hb2⟩
  obtain ⟨A5, k5, rfl⟩ := bytesT_form hd2
  obtain ⟨A6, k6, rfl⟩ := entsT_form he2
  have hbx := al hb2 (.cells (ndC n (.slice A5 n.data.length k5) (.slice A6 n.ents.length k6)) 65)
  have hbw := ba w2 (.cells (ndC n (.slice A5 n.data.length k5) (.slice A6 n.ents.length k6)) 65)
  have hkr := HK.out.below hbx
  have hkn := Blk.new w2 65 (ndC n (.slice A5 n.data.length k5) (.slice A6 n.ents.length k6))
  have hd3 := hd2.below hbw
  have he3 := he2.below hbw
  have ht3 := HT.out.below hbx
  have hdd3 := HDD.out.below hbx
  have HB3 := Lib.hid (bt hbx HB.out)
  obtain ⟨d, hdz⟩ : ∃ d, w2.heap.size = d := ⟨_, rfl⟩
  have HDG := Lib.hid (show d ≠ g ∧ w.heap.size < d by have := HGW.out; have := HGW1.out; have := hb2.size; constructor <;> omega)
  obtain ⟨W3, hW3⟩ : ∃ W3, w2.alloc (.cells (ndC n (.slice A5 n.data.length k5) (.slice A6 n.ents.length k6)) 65) = W3 := ⟨_, rfl⟩
  rw [hW3] at hkr hkn hd3 he3 ht3 hdd3 HB3
  rw [hdz] at hkn
  have HKR := Lib.hid hkr
  have HKN := Lib.hid hkn
  have HD3 := Lib.hid hd3
  have HE3 := Lib.hid he3
  have HC3 := Lib.hid (HEN.out W3 ht3 hdd3)
  have HL2 := Lib.hid (show (∀ (ad : Addr) (m c : Nat), Value.slice A5 n.data.length k5 = .slice (some ad) m c → ad.block ≠ g) ∧ (∀ (ad : Addr) (m c : Nat), Value.slice A6 n.ents.length k6 = .slice (some ad) m c → ad.block ≠ g) from
    ⟨fun ad m c hv => by have h1 := hl2 ad m c hv; have := HGW.out; have := HB.out.size; omega, fun ad m c hv => by have h1 := hm2 ad m c hv; have := HGW.out; have := HB.out.size; omega⟩)
  clear p0 p1 p2 p3 p4 p5 p6 p7 p8
  obtain ⟨p0, p1, p2, p3, p4, p5, p6, p7, p8⟩ := hkr.c9
  clear hkr hkn hd2 he2 hb2 hbx hbw hd3 he3 ht3 hdd3 hl2 hm2 HG HEN HT HDD HK
  unfold nodeV
  cases hX : tis t r.parent
  · have hZ := HBL.out
    rw [hX, if_pos rfl] at hZ
    have HZ := Lib.hid hZ.symm
    clear hZ hX
    go_wp2
    go_ret
    exact ⟨ret_int HZ.out, grown_below HB3.out _, fun h => by rw [← HZ.out] at h; exact absurd h (by decide)⟩
  · have hZ := HBL.out
    rw [hX, if_neg (by decide)] at hZ
    have HBT2 := Lib.hid (HBT.out hX)
    have HRT2 := Lib.hid (HRT.out hX)
    clear hX HBL HBT HRT
    go_wp2_with fail
    clear hW3 hdz
    refine HC3.out.mono ?_
    rintro e w4 ⟨rfl, ht4, hg4⟩
    have hkr4 := HKR.out.kept hg4 (by intro e; injection e with e; have := HGW.out; omega)
    have hkn4 := HKN.out.kept hg4 (by intro e; injection e with e; exact HDG.out.1 e)
    have hd4 := HD3.out.other hg4 HL2.out.1
    have he4 := HE3.out.other hg4 HL2.out.2
    have hgw4 := grown_trans (grown_below HB3.out (some g)) hg4
    have HGW4 := Lib.hid hgw4
    have HKR4 := Lib.hid hkr4
    have HKN4 := Lib.hid hkn4
    have HT4 := Lib.hid ht4
    clear p0 p1 p2 p3 p4 p5 p6 p7 p8
    obtain ⟨p0, p1, p2, p3, p4, p5, p6, p7, p8⟩ := hkr4.c9
    obtain ⟨n0, n1, n2, n3, n4, n5, n6⟩ := hkn4.c7
    by_cases qX : X = 0
    · subst qX
      rw [if_pos rfl] at hZ
      have HC5 := Lib.hid (with_anyT n _ _ r.name I w4 hd4.1 he4.1 HFD.out.data HFD.out.ents (by have := HS.out.1; omega))
      have HRT3 := Lib.hid (HRT2.out rfl)
      clear hkr4 hkn4 hd4 he4 ht4 hg4 hgw4 HC3 HD3 HE3 HKR HKN HRT2
      rw [← hZ] at HC5 HRT3
      generalize withM n r.name I = N at HC5 HRT3 HBT2
      unfold nodeV at HC5
      go_wp2_with fail
      refine HC5.out.mono ?_
      rintro e w5 ⟨v, rfl, ⟨vd5, ve5, rfl, hx5, hy5⟩, hb5⟩
      obtain ⟨A7, k7, rfl⟩ := bytesX_form hx5
      obtain ⟨A8, k8, rfl⟩ := entsT_form hy5
      have hkr5 := HKR4.out.below hb5
      have hkn5 := HKN4.out.below hb5
      obtain ⟨W6, hW6⟩ : ∃ W6, put7 w5 d (.int .i64 N.kind) (.int .i64 N.mode) (.int .i64 N.uid) (.int .i64 N.gid) (.slice A7 N.data.length k7) (.slice A8 N.ents.length k8) (.string (bA N.target)) = W6 := ⟨_, rfl⟩
      have hg6 : w5.grownBy W6 (some d) := by rw [← hW6]; exact grown7 _ _ _ _ _ _ _ _ _
      have hkn6 : Blk W6 d 65 (ndC N (.slice A7 N.data.length k7) (.slice A8 N.ents.length k8)) := by rw [← hW6]; exact hkn5.put7 _ _ _ _ _ _ _
      have hkr6 := hkr5.kept hg6 (by intro e; injection e with e; have := HDG.out.2; omega)
      have HT6 := Lib.hid ((HT4.out.below hb5).kind hg6 (fun e => HDG.out.1 e.symm) hkn5 (by decide) (by decide))
      have HX6 := Lib.hid (hx5.kept hkn5 (by decide) hg6)
      have HY6 := Lib.hid (hy5.kept hkn5 (by decide) hg6)
      have HGW6 := Lib.hid (show w.grownBy W6 (some g) from grown_new (grown_trans HGW4.out (grown_below hb5 (some g))) hg6 (Nat.le_of_lt HDG.out.2))
      clear n0 n1 n2 n3 n4 n5 n6 p0 p1 p2 p3 p4 p5 p6 p7 p8
      obtain ⟨f0, f1, f2, f3, f4, f5, f6⟩ := hkn5.f7
      obtain ⟨m0, m1, m2, m3, m4, m5, m6⟩ := hkn5.c7
      obtain ⟨n0, n1, n2, n3, n4, n5, n6⟩ := hkn6.c7
      obtain ⟨p0, p1, p2, p3, p4, p5, p6, p7, p8⟩ := hkr6.c9
      unfold put7 at hW6
      clear hkr5 hkn5 hkn6 hkr6 hx5 hy5 hb5 hg6 HC5 HKR4 HKN4 HT4
      unfold nodeV
      by_cases qZ : Z = 0
      · have eZ : (Z != 0) = false := by simpa using qZ
        have HRN := Lib.hid (HRT3.out qZ)
        have HPT := Lib.hid (HBT2.out HRN.out)
        have HC7 := Lib.hid (put_any g T1 (fun _ => True) r.parent N _ _ W6 HT6.out HX6.out.bytes HY6.out.1 (right_few HRN.out) (fun _ _ => trivial))
        rw [HPT.out.1, HPT.out.2] at HC7
        unfold nodeV at HC7
        have HZ := Lib.hid qZ
        clear qZ hZ HRT3 HBT2
        go_wp2_with fail
        clear hW6
        refine HC7.out.mono ?_
        rintro e w7 ⟨rfl, ht7, hg7⟩
        have HT7 := Lib.hid ht7
        have HG7 := Lib.hid (grown_trans HGW6.out hg7)
        clear ht7 hg7
        go_wp2
        go_ret
        exact ⟨ret_int HZ.out.symm, HG7.out, fun _ => HT7.out⟩
      · have eZ : (Z != 0) = true := by simpa using qZ
        have HZ := Lib.hid qZ
        clear qZ hZ HBT2 HRT3
        go_wp2
        go_ret
        exact ⟨rfl, HGW6.out, fun h => absurd h HZ.out⟩
    · rw [if_neg qX] at hZ
      subst hZ
      have eX : (Z != 0) = true := by simpa using qX
      have HX := Lib.hid qX
      clear qX hkr4 hkn4 hd4 he4 ht4 hg4 hgw4 HC3 HRT2 HBT2
      go_wp2
      go_ret
      exact ⟨rfl, HGW4.out, fun h => absurd h HX.out⟩
end Go.Proofs.YtnkjaocmfhjnoaaGreat
namespace Go.Proofs.YtnkjaocmfhjnoaaGreat
open Go Go.RowKit
set_option maxRecDepth 100000

attribute [local go_sem] cell_off4 cell_blk4
def BldAns (w : World) (X : BR) (e : Ending) (w' : World) : Prop :=
  match X with
  | .bad k err => e = .returned (.tuple #[.pointer none, .int .i64 (k : Int), .int .i64 err]) ∧ err ≠ 0
  | .good T => ∃ g, e = .returned (.tuple #[.pointer (some ⟨g, 0, none⟩), .int .i64 0, .int .i64 0]) ∧ TabR w' g T (fun _ => True) ∧ w.heap.size ≤ g
theorem bad_ans {w w' : World} {X : BR} {k : Nat} {err : Int} (h : X = .bad k err) (hne : err ≠ 0) : BldAns w X (.returned (.tuple #[.pointer none, .int .i64 (k : Int), .int .i64 err])) w' := by
  subst h
  exact ⟨rfl, hne⟩
theorem good_ans {w w' : World} {X : BR} {g : Nat} {T : List Nd} (h : X = .good T) (ht : TabR w' g T (fun _ => True)) (hg : w.heap.size ≤ g) : BldAns w X (.returned (.tuple #[.pointer (some ⟨g, 0, none⟩), .int .i64 0, .int .i64 0])) w' := by
  subst h
  exact ⟨g, rfl, ht, hg⟩
theorem drop_cons' {α : Type} {l : List α} {k : Nat} {x : α} (h : l[k]? = some x) : l.drop k = x :: l.drop (k + 1) := by
  obtain ⟨h1, h2⟩ := List.getElem?_eq_some_iff.1 h
  rw [List.drop_eq_getElem_cons h1, h2]
def BldAt (m : Int) (l : List Rw) (k : Nat) (T : List Nd) : Prop := (k = 0 ∧ T = newN m) ∨ (1 ≤ k ∧ bld T k (l.drop k) = bldA m l)
theorem bldAt_end {m : Int} {l : List Rw} {k : Nat} {T : List Nd} (h : BldAt m l k T) (hl : l ≠ []) (hk : l.length ≤ k) : bldA m l = .good T := by
  rcases h with ⟨rfl, -⟩ | ⟨h1, h2⟩
  · cases l with
    | nil => exact absurd rfl hl
    | cons a l => exact absurd hk (by simp)
  · rw [← h2, List.drop_eq_nil_of_le hk]
    rfl
theorem bldAt_root {m : Int} {l : List Rw} {r : Rw} (hr : l[0]? = some r) : (rtE (newN m) r = 0 → BldAt m l 1 (rtT (newN m) r)) ∧ (rtE (newN m) r ≠ 0 → bldA m l = .bad 0 (rtE (newN m) r)) := by
  cases l with
  | nil => cases hr
  | cons a l =>
    have : a = r := by simpa using hr
    subst this
    constructor
    · intro h
      refine .inr ⟨Nat.le_refl _, ?_⟩
      rw [bldA, if_pos h]
      rfl
    · intro h
      rw [bldA, if_neg h]
theorem bldAt_step {m : Int} {l : List Rw} {k : Nat} {T : List Nd} {r : Rw} (h : BldAt m l k T) (hk : k ≠ 0) (hr : l[k]? = some r) : (blE T r = 0 → BldAt m l (k + 1) (blT T r)) ∧ (blE T r ≠ 0 → bldA m l = .bad k (blE T r)) := by
  rcases h with ⟨h1, -⟩ | ⟨h1, h2⟩
  · exact absurd h1 hk
  · rw [drop_cons' hr, bld] at h2
    constructor
    · intro h
      rw [if_pos h] at h2
      exact .inr ⟨by omega, h2⟩
    · intro h
      rw [if_neg h] at h2
      exact h2.symm
set_option maxHeartbeats 8000000 in
theorem build_any (m : Int) (v : Value) (l : List Rw) (w : World) (h : RawsR w v l) (hf : fewR l) :
    Calls Tryz.prog 25 #[.int .i64 m, v] w fun e w' => BldAns w (bldA m l) e w' ∧ Below w.heap.size w w' := by
  obtain ⟨A, c, rfl⟩ := raws_form h
  have hlen := hf.2
  by_cases hz : l.length = 0
  · have hl0 : l = [] := List.length_eq_zero_iff.1 hz
    subst hl0
    clear h hf hlen hz
    go_enter Tryz.func25, Tryz.ntmps25
    go_wp2
    go_ret3
    exact ⟨⟨rfl, by decide⟩, Below.refl _ _⟩
  · have hzb : ((l.length : Int) == 0) = false := by simpa using hz
    have HNE := Lib.hid (show l ≠ [] from fun q => hz (by rw [q]; rfl))
    have HF := Lib.hid hf.1
    have HA := Lib.hid h
    obtain ⟨X, hX⟩ : ∃ X, bldA m l = X := ⟨_, rfl⟩
    have HST := Lib.hid (fun (k : Nat) (T : List Nd) (r : Rw) (h : BldAt m l k T) (hk : k ≠ 0) (hr : l[k]? = some r) => bldAt_step h hk hr)
    have HEND := Lib.hid (fun (k : Nat) (T : List Nd) (h : BldAt m l k T) (hk : l.length ≤ k) => bldAt_end h HNE.out hk)
    have HRO := Lib.hid (fun (r : Rw) (hr : l[0]? = some r) => bldAt_root (m := m) hr)
    rw [hX] at HST HEND HRO ⊢
    clear h hf hX hz
    go_enter Tryz.func25, Tryz.ntmps25
    go_wp2_with fail
    refine (new_any m w).mono ?_
    rintro e w1 ⟨rfl, ht1, hb1, -⟩
    obtain ⟨g, hg⟩ : ∃ g, w.heap.size = g := ⟨_, rfl⟩
    have HT1 := Lib.hid (show TabR w1 w.heap.size (newN m) (fun _ => True) from ht1 _)
    have HB1 := Lib.hid hb1
    rw [hg] at HT1 ⊢
    have HGS := Lib.hid (Nat.le_of_eq hg)
    have HGE := Lib.hid (Nat.le_of_eq hg.symm)
    clear ht1 hb1 hg
    go_wp2
    go_loopg [19] l.length (fun gh s19 wr => ∃ (k : Nat) (T : List Nd), s19 = .int .i64 k ∧ k ≤ l.length ∧ gh = l.length - k ∧ TabR wr g T (fun _ => True) ∧ Below w.heap.size w wr ∧ BldAt m l k T)
    case atStart => exact ⟨0, newN m, rfl, Nat.zero_le _, rfl, HT1.out, HB1.out, .inl ⟨rfl, rfl⟩⟩
    case round =>
      clear HT1 HB1
      obtain ⟨k, T, rfl, hk, rfl, ht, hbr, hat⟩ := hrel
      have HT := Lib.hid ht
      have HB := Lib.hid hbr
      have HAT := Lib.hid hat
      clear ht hbr hat
      by_cases hlt : k < l.length
      · have hlt' : (k : Int) < (l.length : Int) := by omega
        obtain ⟨r, hr⟩ : ∃ r, l[k]? = some r := ⟨_, List.getElem?_eq_getElem hlt⟩
        obtain ⟨ad, vd, hA, c0, ⟨c1, c2, c3, c4, c5, c6, c7, c8⟩, hd⟩ := raws_get (HA.out.below HB.out) hr
        subst hA
        have HS := Lib.hid (HF.out r (List.mem_of_getElem? hr))
        obtain ⟨A1, k1, rfl⟩ := bytes_form hd rfl
        have hbx := ba wr (.cells (rwC r (.slice A1 r.data.length k1)) 76)
        have hkr := Blk.new wr 76 (rwC r (.slice A1 r.data.length k1))
        have HT2 := Lib.hid (HT.out.below hbx)
        have HD2 := Lib.hid (hd.below hbx)
        have HB2 := Lib.hid (bt hbx HB.out)
        obtain ⟨W2, hW2⟩ : ∃ W2, wr.alloc (.cells (rwC r (.slice A1 r.data.length k1)) 76) = W2 := ⟨_, rfl⟩
        rw [hW2] at hkr HT2 HD2 HB2
        have HK := Lib.hid hr
        obtain ⟨p0, p1, p2, p3, p4, p5, p6, p7, p8⟩ := hkr.c9
        clear hd hbx hkr hr HT HB
        by_cases k0 : k = 0
        · have e0 : ((k : Int) == 0) = true := by simpa using k0
          have HC := Lib.hid (show T = newN m ∧ l[0]? = some r from by
            rcases HAT.out with ⟨h1, h2⟩ | ⟨h1, -⟩
            · exact ⟨h2, by rw [← h1]; exact HK.out⟩
            · omega)
          have HRR := Lib.hid (HRO.out r HC.out.2)
          have HCC := Lib.hid (root_any g T r A1 k1 W2 HT2.out HD2.out HS.out)
          rw [HC.out.1] at HCC
          have HK0 := Lib.hid k0
          clear k0
          generalize rtE (newN m) r = E at HRR HCC
          go_wp2_with fail
          clear hW2
          refine HCC.out.mono ?_
          rintro e w3 ⟨rfl, hg3, ht3⟩
          have HB3 := Lib.hid (below_grown HB2.out hg3 HGS.out)
          have HT3 := Lib.hid ht3
          clear ht3 hg3 c0 c1 c2 c3 c4 c5 c6 c7 c8 p0 p1 p2 p3 p4 p5 p6 p7 p8
          by_cases qE : E = 0
          · have eE : (E != 0) = false := by simpa using qE
            have HQ := Lib.hid (HT3.out qE)
            have HAT2 := Lib.hid (HRR.out.1 qE)
            clear qE
            go_wp2
            go_roundg (l.length - (k + 1))
            case measure => omega
            case rel => exact ⟨k + 1, rtT (newN m) r, by go_num, by omega, rfl, HQ.out, HB3.out, by rw [HK0.out]; exact HAT2.out⟩
          · have eE : (E != 0) = true := by simpa using qE
            have HQ := Lib.hid (HRR.out.2 qE)
            have HNZ := Lib.hid qE
            clear qE
            go_wp2
            go_ret3
            exact ⟨by have h1 := HQ.out; rw [← HK0.out] at h1; exact bad_ans h1 HNZ.out, HB3.out⟩
        · have e0 : ((k : Int) == 0) = false := by simpa using k0
          have HRR := Lib.hid (HST.out k T r HAT.out k0 HK.out)
          have HCC := Lib.hid (below_any g T r A1 k1 W2 HT2.out HD2.out HS.out)
          clear k0
          generalize blE T r = E at HRR HCC
          go_wp2_with fail
          clear hW2
          refine HCC.out.mono ?_
          rintro e w3 ⟨rfl, hg3, ht3⟩
          have HB3 := Lib.hid (below_grown HB2.out hg3 HGS.out)
          have HT3 := Lib.hid ht3
          clear ht3 hg3 c0 c1 c2 c3 c4 c5 c6 c7 c8 p0 p1 p2 p3 p4 p5 p6 p7 p8
          by_cases qE : E = 0
          · have eE : (E != 0) = false := by simpa using qE
            have HQ := Lib.hid (HT3.out qE)
            have HAT2 := Lib.hid (HRR.out.1 qE)
            clear qE
            go_wp2
            go_roundg (l.length - (k + 1))
            case measure => omega
            case rel => exact ⟨k + 1, blT T r, by go_num, by omega, rfl, HQ.out, HB3.out, HAT2.out⟩
          · have eE : (E != 0) = true := by simpa using qE
            have HQ := Lib.hid (HRR.out.2 qE)
            have HNZ := Lib.hid qE
            clear qE
            go_wp2
            go_ret3
            exact ⟨bad_ans HQ.out HNZ.out, HB3.out⟩
      · have hlt' : ¬ (k : Int) < (l.length : Int) := by omega
        have HQ := Lib.hid (HEND.out k T HAT.out (by omega))
        go_wp2
        go_ret3
        exact ⟨good_ans HQ.out HT.out HGS.out, HB.out⟩
end Go.Proofs.YtnkjaocmfhjnoaaGreat
namespace Go.Proofs.YtnkjaocmfhjnoaaGreat
open Go Go.RowKit
set_option maxRecDepth 100000

end Go.Proofs.YtnkjaocmfhjnoaaGreat
namespace Go.Proofs.YtnkjaocmfhjnoaaGreat
open Go Go.RowKit
set_option maxRecDepth 100000

attribute [local go_sem] cell_off4 cell_blk4
def rCells (l : List (Rw × Value)) : List Value := l.flatMap (fun q => (rwC q.1 q.2).toList)
theorem rCells_at : ∀ (l : List (Rw × Value)) (k j : Nat) (q : Rw × Value), l[k]? = some q → j < 9 → (rCells l)[k * 9 + j]? = (rwC q.1 q.2).toList[j]?
  | [], k, j, q, h, _ => by simp at h
  | p :: l, 0, j, q, h, hj => by
    have : p = q := by simpa using h
    subst this
    have e : rCells (p :: l) = (rwC p.1 p.2).toList ++ rCells l := rfl
    rw [e, Nat.zero_mul, Nat.zero_add, List.getElem?_append_left (by show j < 9; exact hj)]
  | p :: l, k + 1, j, q, h, hj => by
    have e : rCells (p :: l) = (rwC p.1 p.2).toList ++ rCells l := rfl
    rw [e, List.getElem?_append_right (by show 9 ≤ _; omega)]
    have := rCells_at l k j q (by simpa using h) hj
    rw [← this]
    congr 1
    show (k + 1) * 9 + j - 9 = k * 9 + j
    omega
end Go.Proofs.YtnkjaocmfhjnoaaGreat
namespace Go.Proofs.YtnkjaocmfhjnoaaGreat
open Go Go.RowKit
set_option maxRecDepth 100000

attribute [local go_sem] cell_off4 cell_blk4
def isB (m : Int) (l : List Rw) (c : Wh) (T : List Nd) : Prop := (fewR l ∧ c.gs.length ≤ 10) ∧ bldA m l = .good T
def BltAns (w : World) (m : Int) (l : List Rw) (c : Wh) (e : Ending) (w' : World) : Prop :=
  (e = .returned (.tuple #[.pointer none, .bool false]) ∧ ∀ T, ¬ isB m l c T) ∨ ∃ g T, e = .returned (.tuple #[.pointer (some ⟨g, 0, none⟩), .bool true]) ∧ isB m l c T ∧ TabR w' g T (fun _ => True) ∧ w.heap.size ≤ g
set_option maxHeartbeats 8000000 in
theorem built_any (m : Int) (v : Value) (l : List Rw) (c : Wh) (A0 : Option Addr) (n0 k0 : Nat) (w : World) (h : RawsR w v l) (hl : l.length ≤ maxLen) (hi : IntsR w (.slice A0 n0 k0) c.gs) :
    Calls Tryz.prog 8 #[.int .i64 m, v, .agg #[.int .i64 c.u, .int .i64 c.g, .slice A0 n0 k0]] w fun e w' => BltAns w m l c e w' ∧ Below w.heap.size w w' := by
  have hl' : l.length ≤ 9223372036854775807 := by unfold maxLen at hl; omega
  have hn0 : c.gs.length = n0 := ints_len hi
  obtain ⟨F, hF⟩ : ∃ F, BltAns w m l c = F := ⟨_, rfl⟩
  have HNO := Lib.hid (show (∀ T, ¬ isB m l c T) → ∀ w', F (.returned (.tuple #[.pointer none, .bool false])) w' from fun h w' => by rw [← hF]; exact .inl ⟨rfl, h⟩)
  have HYES := Lib.hid (show ∀ g T w', isB m l c T → TabR w' g T (fun _ => True) → w.heap.size ≤ g → F (.returned (.tuple #[.pointer (some ⟨g, 0, none⟩), .bool true])) w' from fun g T w' h1 h2 h3 => by rw [← hF]; exact .inr ⟨g, T, rfl, h1, h2, h3⟩)
  rw [hF]
  have hb1 := ba w (.cells #[.int .i64 c.u, .int .i64 c.g, .slice A0 n0 k0] 30)
  have hk1 := Blk.new w 30 #[.int .i64 c.u, .int .i64 c.g, .slice A0 n0 k0]
  obtain ⟨A, cc, rfl⟩ := raws_form h
  have HA := Lib.hid (h.below hb1)
  obtain ⟨W1, hW1⟩ : ∃ W1, w.alloc (.cells #[.int .i64 c.u, .int .i64 c.g, .slice A0 n0 k0] 30) = W1 := ⟨_, rfl⟩
  rw [hW1] at hb1 hk1 HA
  have HB1 := Lib.hid hb1
  have p2 := hk1.cell 2
  simp at p2
  clear h hl hi hb1 hk1 hF
  by_cases h50 : l.length ≤ 50
  · have y50 : ¬ (l.length : Int) > 50 := by omega
    by_cases h10 : n0 ≤ 10
    · have y10 : ¬ (n0 : Int) > 10 := by omega
      have HGS := Lib.hid (show c.gs.length ≤ 10 by omega)
      have HL50 := Lib.hid h50
      have HM := Lib.hid (fun (hf : fewR l) => build_any m (.slice A l.length cc) l W1 HA.out hf)
      clear hn0 h10 h50
      go_enter Tryz.func8, Tryz.ntmps8
      go_wp2
      go_loopg [8] l.length (fun gh s8 wr => ∃ k : Nat, s8 = .int .i64 k ∧ k ≤ l.length ∧ gh = l.length - k ∧ (∀ r ∈ l.take k, shortR r) ∧ W1 = wr)
      case atStart => exact ⟨0, rfl, Nat.zero_le _, rfl, fun e h => by simp at h, rfl⟩
      case round =>
        obtain ⟨k, rfl, hk, rfl, hgo, rfl⟩ := hrel
        have HG := Lib.hid hgo
        clear hgo
        by_cases hlt : k < l.length
        · have hlt' : (k : Int) < (l.length : Int) := by omega
          obtain ⟨r, hr⟩ : ∃ r, l[k]? = some r := ⟨_, List.getElem?_eq_getElem hlt⟩
          obtain ⟨ad, vd, hA, c0, ⟨c1, c2, c3, c4, c5, c6, c7, c8⟩, hd⟩ := raws_get HA.out hr
          subst hA
          have HK := Lib.hid hr
          obtain ⟨A1, k1, rfl⟩ := bytes_form hd rfl
          have HTK := Lib.hid (take_snoc' hr)
          have hs1 := size_bA r.name
          have hs2 := size_bA r.target
          clear hr hd
          by_cases q1 : r.name.length ≤ 40
          · have y1 : ¬ ((bA r.name).size : Int) > 40 := by rw [hs1]; omega
            by_cases q2 : r.data.length ≤ 100
            · have y2 : ¬ (r.data.length : Int) > 100 := by omega
              by_cases q3 : r.target.length ≤ 100
              · have y3 : ¬ ((bA r.target).size : Int) > 100 := by rw [hs2]; omega
                have HQ := Lib.hid (show shortR r from ⟨q1, q2, q3⟩)
                clear q1 q2 q3 hs1 hs2
                go_wp2
                go_roundg (l.length - (k + 1))
                case measure => omega
                case rel => exact ⟨k + 1, by go_num, by omega, rfl, (fun b hb => by
                  rw [HTK.out] at hb
                  rcases List.mem_append.1 hb with hb | hb
                  · exact HG.out b hb
                  · rw [List.mem_singleton] at hb
                    rw [hb]
                    exact HQ.out), rfl⟩
              · have y3 : ((bA r.target).size : Int) > 100 := by rw [hs2]; omega
                have HX := Lib.hid (show ∀ T, ¬ isB m l c T from fun T h => q3 (h.1.1.1 r (List.mem_of_getElem? HK.out)).2.2)
                clear q1 q2 q3 hs1 hs2
                go_wp2
                go_ret2
                exact ⟨HNO.out HX.out _, HB1.out⟩
            · have y2 : (r.data.length : Int) > 100 := by omega
              have HX := Lib.hid (show ∀ T, ¬ isB m l c T from fun T h => q2 (h.1.1.1 r (List.mem_of_getElem? HK.out)).2.1)
              clear q1 q2 hs1 hs2
              go_wp2
              go_ret2
              exact ⟨HNO.out HX.out _, HB1.out⟩
          · have y1 : ((bA r.name).size : Int) > 40 := by rw [hs1]; omega
            have HX := Lib.hid (show ∀ T, ¬ isB m l c T from fun T h => q1 (h.1.1.1 r (List.mem_of_getElem? HK.out)).1)
            clear q1 hs1 hs2
            go_wp2
            go_ret2
            exact ⟨HNO.out HX.out _, HB1.out⟩
        · have hlt' : ¬ (k : Int) < (l.length : Int) := by omega
          have HF := Lib.hid (show fewR l from ⟨by have := HG.out; rw [List.take_of_length_le (by omega)] at this; exact this, HL50.out⟩)
          have HM2 := Lib.hid (HM.out HF.out)
          cases hX : bldA m l with
          | bad k2 e2 =>
            rw [hX] at HM2
            have HX := Lib.hid (show ∀ T, ¬ isB m l c T from fun T h => by have h2 := h.2; rw [hX] at h2; cases h2)
            clear hX HM
            go_wp2_with fail
            refine HM2.out.mono ?_
            rintro e w3 ⟨⟨rfl, hne⟩, hb3⟩
            have HB3 := Lib.hid (bt hb3 HB1.out)
            have q0 : (e2 == 0) = false := by simpa using hne
            clear hne hb3
            go_wp2
            go_ret2
            exact ⟨HNO.out HX.out _, HB3.out⟩
          | good T =>
            rw [hX] at HM2
            have HX := Lib.hid (show isB m l c T from ⟨⟨HF.out, HGS.out⟩, hX⟩)
            clear hX HM
            go_wp2_with fail
            refine HM2.out.mono ?_
            rintro e w3 ⟨⟨g, rfl, ht, hg⟩, hb3⟩
            have HT := Lib.hid ht
            have HB3 := Lib.hid (bt hb3 HB1.out)
            have HGG := Lib.hid (Nat.le_trans HB1.out.size hg)
            clear ht hb3 hg
            go_wp2
            go_ret2
            exact ⟨HYES.out g T _ HX.out HT.out HGG.out, HB3.out⟩
    · have y10 : (n0 : Int) > 10 := by omega
      have HX := Lib.hid (show ∀ T, ¬ isB m l c T from fun T h => h10 (by have := h.1.2; omega))
      clear hn0 h10 h50
      go_enter Tryz.func8, Tryz.ntmps8
      go_wp2
      go_ret2
      exact ⟨HNO.out HX.out _, HB1.out⟩
  · have y50 : (l.length : Int) > 50 := by omega
    have HX := Lib.hid (show ∀ T, ¬ isB m l c T from fun T h => h50 h.1.1.2)
    clear hn0 h50
    go_enter Tryz.func8, Tryz.ntmps8
    go_wp2
    go_ret2
    exact ⟨HNO.out HX.out _, HB1.out⟩
end Go.Proofs.YtnkjaocmfhjnoaaGreat
namespace Go.Proofs.YtnkjaocmfhjnoaaGreat
open Go Go.RowKit
set_option maxRecDepth 100000

end Go.Proofs.YtnkjaocmfhjnoaaGreat
namespace Go.Proofs.YtnkjaocmfhjnoaaGreat
open Go Go.RowKit
set_option maxRecDepth 100000

attribute [local go_sem] cell_off4 cell_blk4
noncomputable def mkE (t : List Nd) (c : Wh) (umask : Int) (p : Nm) (mode : Int) : Int := plE t c (resM t c p false) 2 (mkM mode umask) []
noncomputable def mkT (t : List Nd) (c : Wh) (umask : Int) (p : Nm) (mode : Int) : List Nd := plT t c (resM t c p false) 2 (mkM mode umask) []
noncomputable def syE (t : List Nd) (c : Wh) (tg p : Nm) : Int := if tg = [] then 2 else if 64 < tg.length then 36 else if tg.contains 0 = true then 22 else plE t c (resM t c p false) 3 511 tg
noncomputable def syT (t : List Nd) (c : Wh) (tg p : Nm) : List Nd := if syE t c tg p = 0 then plT t c (resM t c p false) 3 511 tg else t
noncomputable def crE (t : List Nd) (c : Wh) (umask : Int) (p : Nm) (mode : Int) (f : Bool) : Int := plE t c (resM t c p f) 1 (mskM mode umask) []
noncomputable def crT (t : List Nd) (c : Wh) (umask : Int) (p : Nm) (mode : Int) (f : Bool) : List Nd := plT t c (resM t c p f) 1 (mskM mode umask) []
noncomputable def crI (t : List Nd) (c : Wh) (umask : Int) (p : Nm) (mode : Int) (f : Bool) : Int := plI t c (resM t c p f) 1 (mskM mode umask) []
def MkdirC : Prop := ∀ (g : Nat) (t : List Nd) (P : Nat → Prop) (c : Wh) (A0 : Option Addr) (m k : Nat) (umask : Int) (p : Nm) (mode : Int) (w : World), TabR w g t P → okT t → CrR w c A0 m k → (∀ b, w.heap.size ≤ b → P b) →
    Calls Tryz.prog 103 #[.pointer (some ⟨g, 0, none⟩), .agg #[.int .i64 c.u, .int .i64 c.g, .slice A0 m k], .int .i64 umask, .string (bA p), .int .i64 mode] w fun e w' => e = .returned (.int .i64 (mkE t c umask p mode)) ∧ TabR w' g (mkT t c umask p mode) P ∧ w.grownBy w' (some g)
end Go.Proofs.YtnkjaocmfhjnoaaGreat
namespace Go.Proofs.YtnkjaocmfhjnoaaGreat
open Go Go.RowKit
set_option maxRecDepth 100000

def flB (fl : Int) (i : Nat) : Bool := fl.toNat.testBit i
def flR (fl : Int) : Bool := decide (0 ≤ fl ∧ fl ≤ 63) && ((flB fl 0 || flB fl 1) && ((!flB fl 4 || flB fl 1) && (!flB fl 3 || flB fl 2)))
def flF (fl : Int) : Bool := !flB fl 5 && !flB fl 3
def wrN (c : Wh) (n : Nd) (b : List UInt8) : Nd := ⟨n.kind, writM c.u n.kind n.mode, n.uid, n.gid, b, n.ents, n.target⟩
def flC (t : List Nd) (c : Wh) (fl i : Int) : Bool := (flB fl 0 && !canT t c i 4) || (flB fl 1 && !canT t c i 2)
def fxE (t : List Nd) (c : Wh) (fl i : Int) : Int :=
  if flB fl 3 = true then 17 else if (tget t i).kind = 3 then 40 else if (tget t i).kind = 2 then 21 else if flC t c fl i = true then 13 else 0
noncomputable def foE (t : List Nd) (c : Wh) (um : Int) (p : Nm) (fl md : Int) : Int :=
  if flR fl = false then 22 else if (resM t c p (flF fl)).2 ≠ 0 then (resM t c p (flF fl)).2
  else if (resM t c p (flF fl)).1.node = 0 then (if flB fl 2 = false then 2 else crE t c um p md (flF fl)) else fxE t c fl (resM t c p (flF fl)).1.node
noncomputable def foT (t : List Nd) (c : Wh) (um : Int) (p : Nm) (fl md : Int) : List Nd :=
  if foE t c um p fl md ≠ 0 then t else if (resM t c p (flF fl)).1.node = 0 then crT t c um p md (flF fl)
  else if flB fl 4 = true then setT t (resM t c p (flF fl)).1.node (wrN c (tget t (resM t c p (flF fl)).1.node) []) else t
noncomputable def foI (t : List Nd) (c : Wh) (um : Int) (p : Nm) (fl md : Int) : Int :=
  if foE t c um p fl md ≠ 0 then 0 else if (resM t c p (flF fl)).1.node = 0 then crI t c um p md (flF fl) else (resM t c p (flF fl)).1.node
def faE (t : List Nd) (i off n : Int) : Int := if (tget t i).kind ≠ 1 then 9 else if off < 0 ∨ n < 0 then 22 else 0
def faB (t : List Nd) (i off n : Int) : List UInt8 := if faE t i off n = 0 then ((tget t i).data.drop off.toNat).take n.toNat else []
def ovr (d : List UInt8) (off : Nat) (b : List UInt8) : List UInt8 := (d ++ List.replicate (off - d.length) 0).take off ++ (b ++ d.drop (off + b.length))
def fwE (t : List Nd) (i off : Int) (b : List UInt8) : Int := if (tget t i).kind ≠ 1 then 9 else if off < 0 then 22 else if b = [] then 0 else if 48 < off + (b.length : Int) then 27 else 0
def fwT (t : List Nd) (c : Wh) (i off : Int) (b : List UInt8) : List Nd := if fwE t i off b = 0 ∧ b ≠ [] then setT t i (wrN c (tget t i) (ovr (tget t i).data off.toNat b)) else t
theorem ovr_len (d : List UInt8) (off : Nat) (b : List UInt8) : (ovr d off b).length = max d.length (off + b.length) := by
  unfold ovr
  rw [List.length_append, List.length_append, List.length_take, List.length_append, List.length_replicate, List.length_drop]
  omega
theorem file_parts {n : Nd} (h : rightP n) (hk : n.kind = 1) : headP n ∧ n.ents = [] ∧ n.target = [] ∧ n.data.length ≤ 48 := by
  obtain ⟨h1, h2 | h2 | h2⟩ := h
  · exact ⟨h1, h2.2⟩
  · exact absurd (hk.symm.trans h2.1) (by decide)
  · exact absurd (hk.symm.trans h2.1) (by decide)
theorem wr_right {n : Nd} (h : rightP n) (hk : n.kind = 1) (c : Wh) {b : List UInt8} (hb : b.length ≤ 48) : rightP (wrN c n b) := by
  obtain ⟨⟨h1, h2, h3⟩, h4, h5, -⟩ := file_parts h hk
  have hw := writ_bd c.u n.kind n.mode
  exact ⟨⟨⟨hw.1, by have := hw.2; show writM c.u n.kind n.mode ≤ 4095; omega⟩, h2, h3⟩, .inl ⟨hk, h4, h5, hb⟩⟩
theorem fx_zero {t : List Nd} {c : Wh} {fl i : Int} (h : fxE t c fl i = 0) : flB fl 3 = false ∧ (tget t i).kind ≠ 3 ∧ (tget t i).kind ≠ 2 ∧ flC t c fl i = false := by
  unfold fxE at h
  cases h3 : flB fl 3 with
  | true => rw [h3, if_pos rfl] at h; exact absurd h (by decide)
  | false =>
    rw [h3, if_neg (by decide)] at h
    by_cases k3 : (tget t i).kind = 3
    · rw [if_pos k3] at h; exact absurd h (by decide)
    rw [if_neg k3] at h
    by_cases k2 : (tget t i).kind = 2
    · rw [if_pos k2] at h; exact absurd h (by decide)
    rw [if_neg k2] at h
    cases hc : flC t c fl i with
    | true => rw [hc, if_pos rfl] at h; exact absurd h (by decide)
    | false => exact ⟨rfl, k3, k2, rfl⟩
theorem flr_can {fl : Int} (h : flR fl = true) : flB fl 0 = true ∨ flB fl 1 = true := by
  unfold flR at h
  simp only [Bool.and_eq_true, Bool.or_eq_true] at h
  exact h.2.1
theorem fo_zero {t : List Nd} {c : Wh} {um : Int} {p : Nm} {fl md : Int} (h : foE t c um p fl md = 0) : flR fl = true ∧ (resM t c p (flF fl)).2 = 0 ∧
    ((resM t c p (flF fl)).1.node = 0 ∧ flB fl 2 = true ∧ crE t c um p md (flF fl) = 0 ∨ (resM t c p (flF fl)).1.node ≠ 0 ∧ fxE t c fl (resM t c p (flF fl)).1.node = 0) := by
  unfold foE at h
  cases hr : flR fl with
  | false => rw [hr, if_pos rfl] at h; exact absurd h (by decide)
  | true =>
    rw [hr, if_neg (by decide)] at h
    by_cases h2 : (resM t c p (flF fl)).2 = 0
    · rw [if_neg (fun q => q h2)] at h
      refine ⟨rfl, h2, ?_⟩
      by_cases h3 : (resM t c p (flF fl)).1.node = 0
      · rw [if_pos h3] at h
        cases h4 : flB fl 2 with
        | false => rw [h4, if_pos rfl] at h; exact absurd h (by decide)
        | true => rw [h4, if_neg (by decide)] at h; exact .inl ⟨h3, rfl, h⟩
      · rw [if_neg h3] at h
        exact .inr ⟨h3, h⟩
    · rw [if_pos h2] at h
      exact absurd h h2
theorem flc_tis {t : List Nd} {c : Wh} {fl i : Int} (hc : flC t c fl i = false) (hr : flR fl = true) : tis t i = true := by
  unfold flC canT at hc
  rcases flr_can hr with q | q
  · rw [q] at hc
    cases ht : tis t i with
    | true => rfl
    | false => rw [ht] at hc; simp at hc
  · rw [q] at hc
    cases ht : tis t i with
    | true => rfl
    | false => rw [ht] at hc; simp at hc
theorem fx_file {t : List Nd} (ho : okT t) {c : Wh} {fl i : Int} (h : fxE t c fl i = 0) (hr : flR fl = true) : (tget t i).kind = 1 ∧ tis t i = true := by
  obtain ⟨-, k3, k2, hc⟩ := fx_zero h
  have hi := flc_tis hc hr
  refine ⟨?_, hi⟩
  obtain ⟨-, q | q | q⟩ := tis_right ho hi
  · exact q.1
  · exact absurd q.1 k2
  · exact absurd q.1 k3
theorem fw_zero {t : List Nd} {i off : Int} {b : List UInt8} (h : fwE t i off b = 0) : (tget t i).kind = 1 ∧ 0 ≤ off ∧ (b ≠ [] → off + (b.length : Int) ≤ 48) := by
  unfold fwE at h
  by_cases hk : (tget t i).kind = 1
  · rw [if_neg (fun q => q hk)] at h
    by_cases h0 : off < 0
    · rw [if_pos h0] at h; exact absurd h (by decide)
    · rw [if_neg h0] at h
      refine ⟨hk, by omega, fun hb => ?_⟩
      rw [if_neg hb] at h
      by_cases h8 : 48 < off + (b.length : Int)
      · rw [if_pos h8] at h; exact absurd h (by decide)
      · omega
  · rw [if_pos hk] at h
    exact absurd h (by decide)
theorem kind_is {t : List Nd} {i : Int} (h : (tget t i).kind = 1) : tis t i = true := by unfold tis; rw [h]; rfl
theorem fw_right {t : List Nd} (ho : okT t) (c : Wh) {i off : Int} {b : List UInt8} (h : fwE t i off b = 0) (hb : b ≠ []) : rightP (wrN c (tget t i) (ovr (tget t i).data off.toNat b)) := by
  obtain ⟨hk, h0, h1⟩ := fw_zero h
  have hr := tis_right ho (kind_is hk)
  refine wr_right hr hk c ?_
  rw [ovr_len]
  have h2 := (file_parts hr hk).2.2.2
  have h3 := h1 hb
  omega
theorem fo_right {t : List Nd} (ho : okT t) (c : Wh) {fl i : Int} (h : fxE t c fl i = 0) (hr : flR fl = true) : rightP (wrN c (tget t i) []) :=
  wr_right (tis_right ho (fx_file ho h hr).2) (fx_file ho h hr).1 c (Nat.zero_le _)
theorem fo_err {t : List Nd} {c : Wh} {um : Int} {p : Nm} {fl md : Int} (h : foE t c um p fl md ≠ 0) : foT t c um p fl md = t ∧ foI t c um p fl md = 0 := ⟨if_pos h, if_pos h⟩
end Go.Proofs.YtnkjaocmfhjnoaaGreat
