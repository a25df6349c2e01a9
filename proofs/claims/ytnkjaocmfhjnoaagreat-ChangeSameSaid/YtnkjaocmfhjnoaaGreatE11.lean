/-
  Package sys: the open nodes, a process's umask, a place, the table. The conditions are said at each. Blocks of twelve cells; a box of what a call answered. The conditions are said at each. What the functions of package sys that carry out calls answer, as a statement; what each of their walks begins and ends with. No condition. What MayMode, MayOwn, Mode, Written and Sticky of package cred answer, and the reference's. The condition: no more groups than a million. The bits of what is made, as the program has them; plain mathematics. The conditions are said at each. Package plant's small functions, and what its closures tell of a node that is made. The conditions are said at each.
-/
import Derived.Test.YtnkjaocmfhjnoaaGreatE1
import Derived.Test.YtnkjaocmfhjnoaaGreatE2
import Derived.Test.YtnkjaocmfhjnoaaGreatE4
import Derived.Test.YtnkjaocmfhjnoaaGreatE5
import Derived.Test.YtnkjaocmfhjnoaaGreatE9
import Derived.Test.YtnkjaocmfhjnoaaGreatE10
import Derived.Deep.QuietTactic
import Derived.Deep.RegionHeld3
import Derived.Deep.RegionWith
import Derived.StillTailTactics
namespace Go.Proofs.YtnkjaocmfhjnoaaGreat
open Go Go.RowKit
set_option maxRecDepth 100000

attribute [local go_sem] cell_off4 cell_blk4
theorem opnF_snoc {l : List Fdm} {j : Nat} {f : Fdm} (h : l[j]? = some f) : opnF (l.take (j + 1)) = opnF (l.take j) ++ (if f.node = 0 then [] else [f.node]) := by
  have e : l.take (j + 1) = l.take j ++ [f] := by rw [List.take_add_one, h]; rfl
  rw [e]
  unfold opnF
  rw [List.filter_append, List.map_append]
  congr 1
  by_cases q : f.node = 0
  · simp [q]
  · simp [q]
theorem opnP_snoc {l : List Prm} {k : Nat} {p : Prm} (h : l[k]? = some p) : opnP (l.take (k + 1)) = opnP (l.take k) ++ opnF p.f := by
  have e : l.take (k + 1) = l.take k ++ [p] := by rw [List.take_add_one, h]; rfl
  rw [e]
  unfold opnP
  rw [List.flatMap_append]
  simp
theorem opnP_take_le (l : List Prm) (k : Nat) : (opnP (l.take k)).length ≤ (opnP l).length := by
  have e : opnP l = opnP (l.take k) ++ opnP (l.drop k) := by
    unfold opnP
    rw [← List.flatMap_append, List.take_append_drop]
  rw [e, List.length_append]
  omega
theorem opnF_take_le (l : List Fdm) (j : Nat) : (opnF (l.take j)).length ≤ (opnF l).length := by
  have e : opnF l = opnF (l.take j) ++ opnF (l.drop j) := by
    unfold opnF
    rw [← List.map_append, ← List.filter_append, List.take_append_drop]
  rw [e, List.length_append]
  omega
theorem opn_part {l : List Prm} {k : Nat} {p : Prm} (h : l[k]? = some p) (hn : (opnP l).length ≤ 1000) (j : Nat) : (opnP (l.take k) ++ opnF (p.f.take j)).length ≤ 1000 := by
  have h1 := opnP_take_le l (k + 1)
  rw [opnP_snoc h, List.length_append] at h1
  have h2 := opnF_take_le p.f j
  rw [List.length_append]
  omega
theorem idx3_0 (n0 o0 n1 o1 n2 o2 : Int) (r0 w0 r1 w1 r2 w2 : Bool) (W : World) : (Instr.index 113 (.agg #[.int .i64 n0, .int .i64 o0, .bool r0, .bool w0, .int .i64 n1, .int .i64 o1, .bool r1, .bool w1, .int .i64 n2, .int .i64 o2, .bool r2, .bool w2]) (.int .i64 0)).run Tryz.prog W = .ok (.agg #[.int .i64 n0, .int .i64 o0, .bool r0, .bool w0]) W := by kernel_rfl
theorem idx3_1 (n0 o0 n1 o1 n2 o2 : Int) (r0 w0 r1 w1 r2 w2 : Bool) (W : World) : (Instr.index 113 (.agg #[.int .i64 n0, .int .i64 o0, .bool r0, .bool w0, .int .i64 n1, .int .i64 o1, .bool r1, .bool w1, .int .i64 n2, .int .i64 o2, .bool r2, .bool w2]) (.int .i64 1)).run Tryz.prog W = .ok (.agg #[.int .i64 n1, .int .i64 o1, .bool r1, .bool w1]) W := by kernel_rfl
theorem idx3_2 (n0 o0 n1 o1 n2 o2 : Int) (r0 w0 r1 w1 r2 w2 : Bool) (W : World) : (Instr.index 113 (.agg #[.int .i64 n0, .int .i64 o0, .bool r0, .bool w0, .int .i64 n1, .int .i64 o1, .bool r1, .bool w1, .int .i64 n2, .int .i64 o2, .bool r2, .bool w2]) (.int .i64 2)).run Tryz.prog W = .ok (.agg #[.int .i64 n2, .int .i64 o2, .bool r2, .bool w2]) W := by kernel_rfl
theorem own_snoc {w : World} {B : Nat} {v : Value} {l : List Int} {x : Int} (h : w.ownsRow B 3 1 v (l.length + 1) (iCells l ++ [.int .i64 x])) : ∃ A c, v = .slice A (l ++ [x]).length c ∧ w.ownsRow B 3 1 (.slice A (l ++ [x]).length c) (l ++ [x]).length (iCells (l ++ [x])) := by
  obtain ⟨A, c, rfl⟩ := own_slice h
  rw [iCells_snoc] at h
  exact ⟨A, c, by rw [List.length_append]; rfl, by rw [List.length_append]; exact h⟩
set_option maxHeartbeats 16000000 in
theorem sopn_any (s g b c : Nat) (S : Sym) (w : World) (h : Sq w s g b c S) (hn : (opnS S).length ≤ 1000) :
    Calls Tryz.prog 106 #[.pointer (some ⟨s, 0, none⟩)] w fun e w' => ∃ A n c, e = .returned (.slice A n c) ∧ IntsR w' (.slice A n c) (opnS S) ∧ (∀ ad, A = some ad → w.heap.size ≤ ad.block) ∧ Below w.heap.size w w' := by
  have p1 := h.blk.cell 1
  simp at p1
  have HS := Lib.hid h
  have HN := Lib.hid hn
  have hi0 := idx3_0
  have hi1 := idx3_1
  have hi2 := idx3_2
  have hfew := h.few
  clear h hn
  go_enter Tryz.func106, Tryz.ntmps106
  go_wp2
  go_loopg [3, 15] S.p.length (fun gh s3 s15 wr => ∃ (k : Nat) (A : Option Addr) (m : Nat), s3 = .slice A (opnP (S.p.take k)).length m ∧ s15 = .int .i64 k ∧ k ≤ S.p.length ∧ gh = S.p.length - k ∧ wr.ownsRow w.heap.size 3 1 (.slice A (opnP (S.p.take k)).length m) (opnP (S.p.take k)).length (iCells (opnP (S.p.take k))) ∧ Below w.heap.size w wr)
  case atStart => exact ⟨0, none, 0, rfl, rfl, Nat.zero_le _, rfl, World.ownsRow_nil _ _ _ _, Below.refl _ _⟩
  case round =>
    obtain ⟨k, A, m, rfl, rfl, hk, rfl, ho, hb⟩ := hrel
    by_cases hlt : k < S.p.length
    · have hlt' : (k : Int) < (S.p.length : Int) := by omega
      obtain ⟨p, hp⟩ : ∃ p, S.p[k]? = some p := ⟨_, List.getElem?_eq_getElem hlt⟩
      obtain ⟨G, gm, hc⟩ := HS.out.prs k p hp
      obtain ⟨f0, f1, f2, hpf, a0, a1, a2, -⟩ := (hc.below hb).fds
      have HSN := Lib.hid (opnP_snoc hp)
      have HPT := Lib.hid (fun j => opn_part hp HN.out j)
      obtain ⟨L, hL⟩ : ∃ L, opnP (S.p.take k) = L := ⟨_, rfl⟩
      rw [hL] at ho HSN HPT ⊢
      have HO := Lib.hid ho
      have HB := Lib.hid hb
      have HPF := Lib.hid hpf
      have hA := add_at b 0 (k * 16)
      rw [Nat.zero_add] at hA
      obtain ⟨x0, x1, x2, x3⟩ := a0
      obtain ⟨y0, y1, y2, y3⟩ := a1
      obtain ⟨z0, z1, z2, z3⟩ := a2
      have c0 := bc hb hc.c0
      have c1 := bc hb hc.c1
      have c2 := bc hb hc.c2
      have c3 := bc hb hc.c3
      clear ho hb hpf hL hc hp
      simp only [Nat.add_assoc, Nat.reduceAdd] at x0 x1 x2 x3 y0 y1 y2 y3 z0 z1 z2 z3 c0 c1 c2 c3
      go_wp2
      go_loopg [3, 21] 3 (fun gh s3 s21 wx => ∃ (j : Nat) (A : Option Addr) (m : Nat), s3 = .slice A (L ++ opnF (p.f.take j)).length m ∧ s21 = .int .i64 j ∧ j ≤ 3 ∧ gh = 3 - j ∧ wx.ownsRow w.heap.size 3 1 (.slice A (L ++ opnF (p.f.take j)).length m) (L ++ opnF (p.f.take j)).length (iCells (L ++ opnF (p.f.take j))) ∧ Below w.heap.size w wx)
      case atStart =>
        have e : L ++ opnF (p.f.take 0) = L := by rw [List.take_zero]; exact List.append_nil L
        exact ⟨0, A, m, by rw [e], rfl, Nat.zero_le _, rfl, by rw [e]; exact HO.out.alloc _, al HB.out _⟩
      case round =>
        obtain ⟨j, A2, m2, rfl, rfl, hj, rfl, ho, hb⟩ := hrel
        by_cases hjl : j < 3
        · have hjl' : (j : Int) < 3 := by omega
          obtain ⟨fj, hfj⟩ : ∃ f, p.f[j]? = some f := ⟨_, List.getElem?_eq_getElem (by rw [HPF.out]; exact hjl)⟩
          have HSJ := Lib.hid (opnF_snoc hfj)
          have HLL := Lib.hid (HPT.out j)
          have hfj3 : [f0, f1, f2][j]? = some fj := by rw [← HPF.out]; exact hfj
          obtain ⟨M, hM⟩ : ∃ M, L ++ opnF (p.f.take j) = M := ⟨_, rfl⟩
          rw [hM] at ho HLL ⊢
          have HM := Lib.hid hM
          have HO2 := Lib.hid ho
          have HB2 := Lib.hid hb
          clear ho hb hM hfj
          by_cases q : fj.node = 0
          · have q1 : (fj.node == 0) = true := by simpa using q
            have HE := Lib.hid (show L ++ opnF (p.f.take (j + 1)) = M from by rw [HSJ.out, if_pos q, List.append_nil]; exact HM.out)
            have hj3 : (j = 0 ∧ fj = f0) ∨ (j = 1 ∧ fj = f1) ∨ (j = 2 ∧ fj = f2) := by
              match j, hjl, hfj3 with
              | 0, _, e => exact .inl ⟨rfl, by injection e with e; exact e.symm⟩
              | 1, _, e => exact .inr (.inl ⟨rfl, by injection e with e; exact e.symm⟩)
              | 2, _, e => exact .inr (.inr ⟨rfl, by injection e with e; exact e.symm⟩)
            have HQ := Lib.hid q
            clear q hfj3
            rcases hj3 with ⟨e1, e2⟩ | ⟨e1, e2⟩ | ⟨e1, e2⟩
            · subst e1
              subst e2
              go_wp2
              go_roundg (3 - (0 + 1))
              case measure => decide
              case rel => exact ⟨0 + 1, A2, m2, by rw [HE.out], rfl, by decide, rfl, by rw [HE.out]; exact HO2.out.alloc _, al HB2.out _⟩
            · subst e1
              subst e2
              go_wp2
              go_roundg (3 - (1 + 1))
              case measure => decide
              case rel => exact ⟨1 + 1, A2, m2, by rw [HE.out], rfl, by decide, rfl, by rw [HE.out]; exact HO2.out.alloc _, al HB2.out _⟩
            · subst e1
              subst e2
              go_wp2
              go_roundg (3 - (2 + 1))
              case measure => decide
              case rel => exact ⟨2 + 1, A2, m2, by rw [HE.out], rfl, by decide, rfl, by rw [HE.out]; exact HO2.out.alloc _, al HB2.out _⟩
          · have q1 : (fj.node == 0) = false := by simpa using q
            have HE := Lib.hid (show L ++ opnF (p.f.take (j + 1)) = M ++ [fj.node] from by rw [HSJ.out, if_neg q, ← List.append_assoc, HM.out])
            have hj3 : (j = 0 ∧ fj = f0) ∨ (j = 1 ∧ fj = f1) ∨ (j = 2 ∧ fj = f2) := by
              match j, hjl, hfj3 with
              | 0, _, e => exact .inl ⟨rfl, by injection e with e; exact e.symm⟩
              | 1, _, e => exact .inr (.inl ⟨rfl, by injection e with e; exact e.symm⟩)
              | 2, _, e => exact .inr (.inr ⟨rfl, by injection e with e; exact e.symm⟩)
            have HOA := Lib.hid (HO2.out.alloc (.cells #[.int .i64 fj.node, .int .i64 fj.off, .bool fj.rd, .bool fj.wr] 112))
            have HBA := Lib.hid (al HB2.out (.cells #[.int .i64 fj.node, .int .i64 fj.off, .bool fj.rd, .bool fj.wr] 112))
            have hml := HLL.out
            have hz2 : (wr.alloc (.cells #[.int .i64 fj.node, .int .i64 fj.off, .bool fj.rd, .bool fj.wr] 112)).heap.size = wr.heap.size + 1 := by simp
            clear q hfj3
            rcases hj3 with ⟨e1, e2⟩ | ⟨e1, e2⟩ | ⟨e1, e2⟩
            · subst e1
              subst e2
              go_wp2_with (at_builtin; refine wpList_append_one rfl (.tmp 27) (.tmp 30) _ rfl w.heap.size 3 _ 1 8 Tryz.underlying28 info_int rfl (by decide) (.slice A2 M.length m2) M.length (iCells M) rfl (wr.alloc (.cells #[.int .i64 fj.node, .int .i64 fj.off, .bool fj.rd, .bool fj.wr] 112)) [.int .i64 fj.node] rfl (int_one _) HOA.out (by rw [hz2]; rfl) (by omega) (by omega) HBA.out.size ?_; intro v5 w5 ho5 hg5; have hb5 := HBA.out.grown hg5 HBA.out.size (fun q hq => (HOA.out.lt q hq).1); obtain ⟨A5, m5, hv5, ho6⟩ := own_snoc ho5; subst hv5; have HO5 := Lib.hid ho6; have HB5 := Lib.hid hb5; clear ho5 hg5 ho6 hb5)
              go_roundg (3 - (0 + 1))
              case measure => decide
              case rel => exact ⟨0 + 1, A5, m5, by rw [HE.out, List.length_append]; rfl, rfl, by decide, rfl, by rw [HE.out]; exact HO5.out, HB5.out⟩
            · subst e1
              subst e2
              go_wp2_with (at_builtin; refine wpList_append_one rfl (.tmp 27) (.tmp 30) _ rfl w.heap.size 3 _ 1 8 Tryz.underlying28 info_int rfl (by decide) (.slice A2 M.length m2) M.length (iCells M) rfl (wr.alloc (.cells #[.int .i64 fj.node, .int .i64 fj.off, .bool fj.rd, .bool fj.wr] 112)) [.int .i64 fj.node] rfl (int_one _) HOA.out (by rw [hz2]; rfl) (by omega) (by omega) HBA.out.size ?_; intro v5 w5 ho5 hg5; have hb5 := HBA.out.grown hg5 HBA.out.size (fun q hq => (HOA.out.lt q hq).1); obtain ⟨A5, m5, hv5, ho6⟩ := own_snoc ho5; subst hv5; have HO5 := Lib.hid ho6; have HB5 := Lib.hid hb5; clear ho5 hg5 ho6 hb5)
              go_roundg (3 - (1 + 1))
              case measure => decide
              case rel => exact ⟨1 + 1, A5, m5, by rw [HE.out, List.length_append]; rfl, rfl, by decide, rfl, by rw [HE.out]; exact HO5.out, HB5.out⟩
            · subst e1
              subst e2
              go_wp2_with (at_builtin; refine wpList_append_one rfl (.tmp 27) (.tmp 30) _ rfl w.heap.size 3 _ 1 8 Tryz.underlying28 info_int rfl (by decide) (.slice A2 M.length m2) M.length (iCells M) rfl (wr.alloc (.cells #[.int .i64 fj.node, .int .i64 fj.off, .bool fj.rd, .bool fj.wr] 112)) [.int .i64 fj.node] rfl (int_one _) HOA.out (by rw [hz2]; rfl) (by omega) (by omega) HBA.out.size ?_; intro v5 w5 ho5 hg5; have hb5 := HBA.out.grown hg5 HBA.out.size (fun q hq => (HOA.out.lt q hq).1); obtain ⟨A5, m5, hv5, ho6⟩ := own_snoc ho5; subst hv5; have HO5 := Lib.hid ho6; have HB5 := Lib.hid hb5; clear ho5 hg5 ho6 hb5)
              go_roundg (3 - (2 + 1))
              case measure => decide
              case rel => exact ⟨2 + 1, A5, m5, by rw [HE.out, List.length_append]; rfl, rfl, by decide, rfl, by rw [HE.out]; exact HO5.out, HB5.out⟩
        · have hjl' : ¬ (j : Int) < 3 := by omega
          have e3 : p.f.take j = p.f := List.take_of_length_le (by rw [HPF.out]; show 3 ≤ j; omega)
          have HE := Lib.hid (show opnP (S.p.take (k + 1)) = L ++ opnF (p.f.take j) from by rw [HSN.out, e3])
          have HO2 := Lib.hid ho
          have HB2 := Lib.hid hb
          obtain ⟨M, hM⟩ : ∃ M, L ++ opnF (p.f.take j) = M := ⟨_, rfl⟩
          rw [hM] at HE HO2 ⊢
          clear ho hb e3 hM
          go_wp2
          go_roundg (S.p.length - (k + 1))
          case measure => omega
          case rel => exact ⟨k + 1, A2, m2, by rw [HE.out], by go_num, by omega, rfl, by rw [HE.out]; exact HO2.out, HB2.out⟩
    · have hlt' : ¬ (k : Int) < (S.p.length : Int) := by omega
      have HI := Lib.hid (show IntsR wr (.slice A (opnP (S.p.take k)).length m) (opnS S) from by
        have e : opnP (S.p.take k) = opnS S := by rw [List.take_of_length_le (by omega)]; rfl
        rw [e] at ho ⊢
        exact IntsR.of_own ho)
      have HL := Lib.hid (show ∀ ad, A = some ad → w.heap.size ≤ ad.block from fun ad hA => by
        subst hA
        exact (ho.lt ad.block (by rcases ho.2 with ⟨q, -⟩ | ⟨g', cap, cur, q, -⟩
                                  · injection q with q; cases q
                                  · injection q with q; injection q with q; rw [q]; rfl)).1)
      have HB := Lib.hid hb
      clear ho hb
      go_wp2
      go_ret
      exact ⟨_, _, _, rfl, HI.out, HL.out, HB.out⟩
end Go.Proofs.YtnkjaocmfhjnoaaGreat
namespace Go.Proofs.YtnkjaocmfhjnoaaGreat
open Go Go.RowKit
set_option maxRecDepth 100000

def put12 (w : World) (g : Nat) (u0 u1 u2 u3 u4 u5 u6 u7 u8 u9 u10 u11 : Value) : World := ((((((((((((w.setCell ⟨g, 0, none⟩ u0).setCell ⟨g, 1, none⟩ u1).setCell ⟨g, 2, none⟩ u2).setCell ⟨g, 3, none⟩ u3).setCell ⟨g, 4, none⟩ u4).setCell ⟨g, 5, none⟩ u5).setCell ⟨g, 6, none⟩ u6).setCell ⟨g, 7, none⟩ u7).setCell ⟨g, 8, none⟩ u8).setCell ⟨g, 9, none⟩ u9).setCell ⟨g, 10, none⟩ u10).setCell ⟨g, 11, none⟩ u11)
section
variable {w : World} {g : Nat} {t : TypeId} {a0 a1 a2 a3 a4 a5 a6 a7 a8 a9 a10 a11 : Value}
theorem Blk.set12_0 (h : Blk w g t #[a0, a1, a2, a3, a4, a5, a6, a7, a8, a9, a10, a11]) (u : Value) : Blk (w.setCell ⟨g, 0, none⟩ u) g t #[u, a1, a2, a3, a4, a5, a6, a7, a8, a9, a10, a11] := by simpa using h.set_ 0 u
theorem Blk.set12_1 (h : Blk w g t #[a0, a1, a2, a3, a4, a5, a6, a7, a8, a9, a10, a11]) (u : Value) : Blk (w.setCell ⟨g, 1, none⟩ u) g t #[a0, u, a2, a3, a4, a5, a6, a7, a8, a9, a10, a11] := by simpa using h.set_ 1 u
theorem Blk.set12_2 (h : Blk w g t #[a0, a1, a2, a3, a4, a5, a6, a7, a8, a9, a10, a11]) (u : Value) : Blk (w.setCell ⟨g, 2, none⟩ u) g t #[a0, a1, u, a3, a4, a5, a6, a7, a8, a9, a10, a11] := by simpa using h.set_ 2 u
theorem Blk.set12_3 (h : Blk w g t #[a0, a1, a2, a3, a4, a5, a6, a7, a8, a9, a10, a11]) (u : Value) : Blk (w.setCell ⟨g, 3, none⟩ u) g t #[a0, a1, a2, u, a4, a5, a6, a7, a8, a9, a10, a11] := by simpa using h.set_ 3 u
theorem Blk.set12_4 (h : Blk w g t #[a0, a1, a2, a3, a4, a5, a6, a7, a8, a9, a10, a11]) (u : Value) : Blk (w.setCell ⟨g, 4, none⟩ u) g t #[a0, a1, a2, a3, u, a5, a6, a7, a8, a9, a10, a11] := by simpa using h.set_ 4 u
theorem Blk.set12_5 (h : Blk w g t #[a0, a1, a2, a3, a4, a5, a6, a7, a8, a9, a10, a11]) (u : Value) : Blk (w.setCell ⟨g, 5, none⟩ u) g t #[a0, a1, a2, a3, a4, u, a6, a7, a8, a9, a10, a11] := by simpa using h.set_ 5 u
theorem Blk.set12_6 (h : Blk w g t #[a0, a1, a2, a3, a4, a5, a6, a7, a8, a9, a10, a11]) (u : Value) : Blk (w.setCell ⟨g, 6, none⟩ u) g t #[a0, a1, a2, a3, a4, a5, u, a7, a8, a9, a10, a11] := by simpa using h.set_ 6 u
theorem Blk.set12_7 (h : Blk w g t #[a0, a1, a2, a3, a4, a5, a6, a7, a8, a9, a10, a11]) (u : Value) : Blk (w.setCell ⟨g, 7, none⟩ u) g t #[a0, a1, a2, a3, a4, a5, a6, u, a8, a9, a10, a11] := by simpa using h.set_ 7 u
theorem Blk.set12_8 (h : Blk w g t #[a0, a1, a2, a3, a4, a5, a6, a7, a8, a9, a10, a11]) (u : Value) : Blk (w.setCell ⟨g, 8, none⟩ u) g t #[a0, a1, a2, a3, a4, a5, a6, a7, u, a9, a10, a11] := by simpa using h.set_ 8 u
theorem Blk.set12_9 (h : Blk w g t #[a0, a1, a2, a3, a4, a5, a6, a7, a8, a9, a10, a11]) (u : Value) : Blk (w.setCell ⟨g, 9, none⟩ u) g t #[a0, a1, a2, a3, a4, a5, a6, a7, a8, u, a10, a11] := by simpa using h.set_ 9 u
theorem Blk.set12_10 (h : Blk w g t #[a0, a1, a2, a3, a4, a5, a6, a7, a8, a9, a10, a11]) (u : Value) : Blk (w.setCell ⟨g, 10, none⟩ u) g t #[a0, a1, a2, a3, a4, a5, a6, a7, a8, a9, u, a11] := by simpa using h.set_ 10 u
theorem Blk.set12_11 (h : Blk w g t #[a0, a1, a2, a3, a4, a5, a6, a7, a8, a9, a10, a11]) (u : Value) : Blk (w.setCell ⟨g, 11, none⟩ u) g t #[a0, a1, a2, a3, a4, a5, a6, a7, a8, a9, a10, u] := by simpa using h.set_ 11 u
theorem Blk.c12 (h : Blk w g t #[a0, a1, a2, a3, a4, a5, a6, a7, a8, a9, a10, a11]) : w.cell? ⟨g, 0, none⟩ = some a0 ∧ w.cell? ⟨g, 1, none⟩ = some a1 ∧ w.cell? ⟨g, 2, none⟩ = some a2 ∧ w.cell? ⟨g, 3, none⟩ = some a3 ∧ w.cell? ⟨g, 4, none⟩ = some a4 ∧ w.cell? ⟨g, 5, none⟩ = some a5 ∧ w.cell? ⟨g, 6, none⟩ = some a6 ∧ w.cell? ⟨g, 7, none⟩ = some a7 ∧ w.cell? ⟨g, 8, none⟩ = some a8 ∧ w.cell? ⟨g, 9, none⟩ = some a9 ∧ w.cell? ⟨g, 10, none⟩ = some a10 ∧ w.cell? ⟨g, 11, none⟩ = some a11 := ⟨h.cell 0, h.cell 1, h.cell 2, h.cell 3, h.cell 4, h.cell 5, h.cell 6, h.cell 7, h.cell 8, h.cell 9, h.cell 10, h.cell 11⟩
theorem Blk.f12 (h : Blk w g t #[a0, a1, a2, a3, a4, a5, a6, a7, a8, a9, a10, a11]) : w.frozen? ⟨g, 0, none⟩ = false ∧ w.frozen? ⟨g, 1, none⟩ = false ∧ w.frozen? ⟨g, 2, none⟩ = false ∧ w.frozen? ⟨g, 3, none⟩ = false ∧ w.frozen? ⟨g, 4, none⟩ = false ∧ w.frozen? ⟨g, 5, none⟩ = false ∧ w.frozen? ⟨g, 6, none⟩ = false ∧ w.frozen? ⟨g, 7, none⟩ = false ∧ w.frozen? ⟨g, 8, none⟩ = false ∧ w.frozen? ⟨g, 9, none⟩ = false ∧ w.frozen? ⟨g, 10, none⟩ = false ∧ w.frozen? ⟨g, 11, none⟩ = false := ⟨h.frozen 0, h.frozen 1, h.frozen 2, h.frozen 3, h.frozen 4, h.frozen 5, h.frozen 6, h.frozen 7, h.frozen 8, h.frozen 9, h.frozen 10, h.frozen 11⟩
theorem Blk.s12 (h : Blk w g t #[a0, a1, a2, a3, a4, a5, a6, a7, a8, a9, a10, a11]) : (∀ u0, (w.setCell ⟨g, 0, none⟩ u0).cell? ⟨g, 0, none⟩ = some u0) ∧
    (∀ u0 u1, ((w.setCell ⟨g, 0, none⟩ u0).setCell ⟨g, 1, none⟩ u1).cell? ⟨g, 1, none⟩ = some u1) ∧
    (∀ u0 u1 u2, (((w.setCell ⟨g, 0, none⟩ u0).setCell ⟨g, 1, none⟩ u1).setCell ⟨g, 2, none⟩ u2).cell? ⟨g, 2, none⟩ = some u2) ∧
    (∀ u0 u1 u2 u3, ((((w.setCell ⟨g, 0, none⟩ u0).setCell ⟨g, 1, none⟩ u1).setCell ⟨g, 2, none⟩ u2).setCell ⟨g, 3, none⟩ u3).cell? ⟨g, 3, none⟩ = some u3) ∧
    (∀ u0 u1 u2 u3 u4, (((((w.setCell ⟨g, 0, none⟩ u0).setCell ⟨g, 1, none⟩ u1).setCell ⟨g, 2, none⟩ u2).setCell ⟨g, 3, none⟩ u3).setCell ⟨g, 4, none⟩ u4).cell? ⟨g, 4, none⟩ = some u4) ∧
    (∀ u0 u1 u2 u3 u4 u5, ((((((w.setCell ⟨g, 0, none⟩ u0).setCell ⟨g, 1, none⟩ u1).setCell ⟨g, 2, none⟩ u2).setCell ⟨g, 3, none⟩ u3).setCell ⟨g, 4, none⟩ u4).setCell ⟨g, 5, none⟩ u5).cell? ⟨g, 5, none⟩ = some u5) ∧
    (∀ u0 u1 u2 u3 u4 u5 u6, (((((((w.setCell ⟨g, 0, none⟩ u0).setCell ⟨g, 1, none⟩ u1).setCell ⟨g, 2, none⟩ u2).setCell ⟨g, 3, none⟩ u3).setCell ⟨g, 4, none⟩ u4).setCell ⟨g, 5, none⟩ u5).setCell ⟨g, 6, none⟩ u6).cell? ⟨g, 6, none⟩ = some u6) ∧
    (∀ u0 u1 u2 u3 u4 u5 u6 u7, ((((((((w.setCell ⟨g, 0, none⟩ u0).setCell ⟨g, 1, none⟩ u1).setCell ⟨g, 2, none⟩ u2).setCell ⟨g, 3, none⟩ u3).setCell ⟨g, 4, none⟩ u4).setCell ⟨g, 5, none⟩ u5).setCell ⟨g, 6, none⟩ u6).setCell ⟨g, 7, none⟩ u7).cell? ⟨g, 7, none⟩ = some u7) ∧
    (∀ u0 u1 u2 u3 u4 u5 u6 u7 u8, (((((((((w.setCell ⟨g, 0, none⟩ u0).setCell ⟨g, 1, none⟩ u1).setCell ⟨g, 2, none⟩ u2).setCell ⟨g, 3, none⟩ u3).setCell ⟨g, 4, none⟩ u4).setCell ⟨g, 5, none⟩ u5).setCell ⟨g, 6, none⟩ u6).setCell ⟨g, 7, none⟩ u7).setCell ⟨g, 8, none⟩ u8).cell? ⟨g, 8, none⟩ = some u8) ∧
    (∀ u0 u1 u2 u3 u4 u5 u6 u7 u8 u9, ((((((((((w.setCell ⟨g, 0, none⟩ u0).setCell ⟨g, 1, none⟩ u1).setCell ⟨g, 2, none⟩ u2).setCell ⟨g, 3, none⟩ u3).setCell ⟨g, 4, none⟩ u4).setCell ⟨g, 5, none⟩ u5).setCell ⟨g, 6, none⟩ u6).setCell ⟨g, 7, none⟩ u7).setCell ⟨g, 8, none⟩ u8).setCell ⟨g, 9, none⟩ u9).cell? ⟨g, 9, none⟩ = some u9) ∧
    (∀ u0 u1 u2 u3 u4 u5 u6 u7 u8 u9 u10, (((((((((((w.setCell ⟨g, 0, none⟩ u0).setCell ⟨g, 1, none⟩ u1).setCell ⟨g, 2, none⟩ u2).setCell ⟨g, 3, none⟩ u3).setCell ⟨g, 4, none⟩ u4).setCell ⟨g, 5, none⟩ u5).setCell ⟨g, 6, none⟩ u6).setCell ⟨g, 7, none⟩ u7).setCell ⟨g, 8, none⟩ u8).setCell ⟨g, 9, none⟩ u9).setCell ⟨g, 10, none⟩ u10).cell? ⟨g, 10, none⟩ = some u10) ∧
    (∀ u0 u1 u2 u3 u4 u5 u6 u7 u8 u9 u10 u11, ((((((((((((w.setCell ⟨g, 0, none⟩ u0).setCell ⟨g, 1, none⟩ u1).setCell ⟨g, 2, none⟩ u2).setCell ⟨g, 3, none⟩ u3).setCell ⟨g, 4, none⟩ u4).setCell ⟨g, 5, none⟩ u5).setCell ⟨g, 6, none⟩ u6).setCell ⟨g, 7, none⟩ u7).setCell ⟨g, 8, none⟩ u8).setCell ⟨g, 9, none⟩ u9).setCell ⟨g, 10, none⟩ u10).setCell ⟨g, 11, none⟩ u11).cell? ⟨g, 11, none⟩ = some u11) :=
  ⟨fun u0 => (h.set12_0 u0).cell 0,
    fun u0 u1 => ((h.set12_0 u0).set12_1 u1).cell 1,
    fun u0 u1 u2 => (((h.set12_0 u0).set12_1 u1).set12_2 u2).cell 2,
    fun u0 u1 u2 u3 => ((((h.set12_0 u0).set12_1 u1).set12_2 u2).set12_3 u3).cell 3,
    fun u0 u1 u2 u3 u4 => (((((h.set12_0 u0).set12_1 u1).set12_2 u2).set12_3 u3).set12_4 u4).cell 4,
    fun u0 u1 u2 u3 u4 u5 => ((((((h.set12_0 u0).set12_1 u1).set12_2 u2).set12_3 u3).set12_4 u4).set12_5 u5).cell 5,
    fun u0 u1 u2 u3 u4 u5 u6 => (((((((h.set12_0 u0).set12_1 u1).set12_2 u2).set12_3 u3).set12_4 u4).set12_5 u5).set12_6 u6).cell 6,
    fun u0 u1 u2 u3 u4 u5 u6 u7 => ((((((((h.set12_0 u0).set12_1 u1).set12_2 u2).set12_3 u3).set12_4 u4).set12_5 u5).set12_6 u6).set12_7 u7).cell 7,
    fun u0 u1 u2 u3 u4 u5 u6 u7 u8 => (((((((((h.set12_0 u0).set12_1 u1).set12_2 u2).set12_3 u3).set12_4 u4).set12_5 u5).set12_6 u6).set12_7 u7).set12_8 u8).cell 8,
    fun u0 u1 u2 u3 u4 u5 u6 u7 u8 u9 => ((((((((((h.set12_0 u0).set12_1 u1).set12_2 u2).set12_3 u3).set12_4 u4).set12_5 u5).set12_6 u6).set12_7 u7).set12_8 u8).set12_9 u9).cell 9,
    fun u0 u1 u2 u3 u4 u5 u6 u7 u8 u9 u10 => (((((((((((h.set12_0 u0).set12_1 u1).set12_2 u2).set12_3 u3).set12_4 u4).set12_5 u5).set12_6 u6).set12_7 u7).set12_8 u8).set12_9 u9).set12_10 u10).cell 10,
    fun u0 u1 u2 u3 u4 u5 u6 u7 u8 u9 u10 u11 => ((((((((((((h.set12_0 u0).set12_1 u1).set12_2 u2).set12_3 u3).set12_4 u4).set12_5 u5).set12_6 u6).set12_7 u7).set12_8 u8).set12_9 u9).set12_10 u10).set12_11 u11).cell 11⟩
end
theorem grown12 (w : World) (g : Nat) (u0 u1 u2 u3 u4 u5 u6 u7 u8 u9 u10 u11 : Value) : w.grownBy (put12 w g u0 u1 u2 u3 u4 u5 u6 u7 u8 u9 u10 u11) (some g) := by
  have h := fun (W : World) (i : Nat) (u : Value) => grown_setCell W ⟨g, i, none⟩ u
  exact (grown_trans (grown_trans (grown_trans (grown_trans (grown_trans (grown_trans (grown_trans (grown_trans (grown_trans (grown_trans (grown_trans (h _ _ _) (h _ _ _)) (h _ _ _)) (h _ _ _)) (h _ _ _)) (h _ _ _)) (h _ _ _)) (h _ _ _)) (h _ _ _)) (h _ _ _)) (h _ _ _)) (h _ _ _))

theorem Fix.blk {l : List Nat} {w w' : World} (h : Fix l w w') {z : Nat} {t : TypeId} {cs : Array Value} (hk : Blk w z t cs) (hz : ¬ z ∈ l) : Blk w' z t cs :=
  Fix.carry (X := fun w => Blk w z t cs) (fun _ _ hx hb => hx.below hb) h (fun m hm _ _ hx hgr => hx.kept hgr (some_ne (fun q => hz (by rw [q]; exact hm)))) hk
abbrev resZ : Array Value := #[.int .i64 0, .int .i64 0, .int .i64 0, .int .i64 0, .int .i64 0, .int .i64 0, .int .i64 0, .int .i64 0, .int .i64 0, .string ⟨#[]⟩, .slice none 0 0, .slice none 0 0]
section
variable {R : World → Value → Sym → List Nat → Prop} {w w5 : World} {v : Value} {S : Sym} {l : List Nat} {r : Rsm} {X : World → Prop} {A1 A2 : Option Addr} {n1 c1 n2 c2 : Nat}
end
end Go.Proofs.YtnkjaocmfhjnoaaGreat
namespace Go.Proofs.YtnkjaocmfhjnoaaGreat
open Go Go.RowKit
set_option maxRecDepth 100000

theorem Fix.far {l : List Nat} {w a b : World} {z : Nat} (h : Fix l w a) (hg : a.grownBy b (some z)) (hz : w.heap.size ≤ z) : Fix l w b :=
  ⟨hg.os.trans h.os, hg.tape.trans h.tape, hg.output.trans h.output, Nat.le_trans h.size hg.size, fun k hk hn => (hg.block k (Nat.lt_of_lt_of_le hk h.size) (fun q => by injection q with q; omega)).trans (h.block k hk hn)⟩
def RsL (w : World) (r : Rsm) (A1 : Option Addr) (n1 c1 : Nat) (A2 : Option Addr) (n2 c2 : Nat) : Prop :=
  StrsR w (.slice A1 n1 c1) (nmA r.names) ∧ BytesT w (.slice A2 n2 c2) r.data ∧ (∀ ad, A1 = some ad → ∃ cs, Blk w ad.block 9 cs)
theorem RsL.none (w : World) {r : Rsm} (h1 : r.names = []) (h2 : r.data = []) : RsL w r none 0 0 none 0 0 := ⟨by rw [h1]; exact strs_none w, by rw [h2]; exact BytesT.nil w, fun ad h => by cases h⟩
theorem RsL.kind {w w' : World} {r : Rsm} {A1 A2 : Option Addr} {n1 c1 n2 c2 z : Nat} {t : TypeId} {cz : Array Value} (h : RsL w r A1 n1 c1 A2 n2 c2) (hk : Blk w z t cz) (hg : w.grownBy w' (some z)) (h1 : 9 ≠ t) (h2 : 5 ≠ t) : RsL w' r A1 n1 c1 A2 n2 c2 := by
  refine ⟨h.1.other hg (fun ad n c hv => ?_), h.2.1.other hg (fun ad n c hv => ?_), fun ad hA => ?_⟩
  · injection hv with hv
    obtain ⟨ds, hd⟩ := h.2.2 ad hv
    exact blk_ne hd hk h1
  · obtain ⟨ds, hd⟩ := h.2.1.2 ad n c hv
    exact blk_ne hd hk h2
  · obtain ⟨ds, hd⟩ := h.2.2 ad hA
    exact ⟨ds, hd.kept hg (some_ne (blk_ne hd hk h1))⟩
def DoQ (w : World) (s g b cp : Nat) (X : Sym × Rsm) (e : Ending) (w' : World) : Prop :=
  ∃ A1 n1 c1 A2 n2 c2, e = .returned (.agg (resC X.2 (.slice A1 n1 c1) (.slice A2 n2 c2))) ∧ RsL w' X.2 A1 n1 c1 A2 n2 c2 ∧ Sq w' s g b cp X.1 ∧ Fix [g, b] w w'
def MtC (F : FuncId) (k : Nat) : Prop := ∀ (s g b cp i : Nat) (S : Sym) (p : Prm) (c : Cal) (vd : Value) (w : World), Sq w s g b cp S → Inv S → (opnS S).length ≤ 1000 → S.p[i]? = some p → BytesR w vd c.data → shortC c →
    Calls Tryz.prog F #[.pointer (some ⟨s, 0, none⟩), .pointer (some ⟨b, i * 16, none⟩), .agg (calC c vd)] w (DoQ w s g b cp (doK k S i p c))
structure Mw (w W : World) (s g b cp o : Nat) (S : Sym) (p : Prm) (c : Cal) (vd : Value) (zr : Nat) (G : Option Addr) (m : Nat) : Prop where
  blo : Below w.heap.size w W
  sq : Sq W s g b cp S
  pc : PrC W b o p G m
  kc : Blk W w.heap.size 51 (calC c vd)
  kr : Blk W zr 57 resZ
  lr : w.heap.size ≤ zr
theorem Mw.below {w W V : World} {s g b cp o : Nat} {S : Sym} {p : Prm} {c : Cal} {vd : Value} {zr : Nat} {G : Option Addr} {m : Nat} (h : Mw w W s g b cp o S p c vd zr G m) (hb : Below W.heap.size W V) : Mw w V s g b cp o S p c vd zr G m :=
  ⟨bt hb h.blo, h.sq.below hb, h.pc.below hb, h.kc.below hb, h.kr.below hb, h.lr⟩
theorem mw_start {w : World} {s g b cp i o : Nat} {S : Sym} {p : Prm} {c : Cal} {vd : Value} (h : Sq w s g b cp S) (hp : S.p[i]? = some p) (ho : i * 16 = o) :
    ∃ W zr G m, (w.alloc (.cells (calC c vd) 51)).alloc (.cells resZ 57) = W ∧ w.heap.size + 1 = zr ∧ Mw w W s g b cp o S p c vd zr G m := by
  obtain ⟨G, m, hc⟩ := h.prs i p hp
  rw [ho] at hc
  have hb : Below w.heap.size w ((w.alloc (.cells (calC c vd) 51)).alloc (.cells resZ 57)) := al (ba _ _) _
  refine ⟨_, _, G, m, rfl, rfl, hb, h.below hb, hc.below hb, (Blk.new _ _ _).alloc _, ?_, Nat.le_succ _⟩
  have h1 := Blk.new (w.alloc (.cells (calC c vd) 51)) 57 resZ
  simpa using h1
section
variable {w W V w5 : World} {s g b cp o : Nat} {S : Sym} {p : Prm} {c : Cal} {vd : Value} {zr : Nat} {G : Option Addr} {m : Nat}
theorem Mw.sys (h : Mw w W s g b cp o S p c vd zr G m) : W.cell? ⟨s, 0, none⟩ = some (.pointer (some ⟨g, 0, none⟩)) := by have := h.sq.blk.cell 0; simpa using this
theorem Mw.cal (h : Mw w W s g b cp o S p c vd zr G m) : W.cell? ⟨w.heap.size, 1, none⟩ = some (.string (bA c.path)) ∧ W.cell? ⟨w.heap.size, 2, none⟩ = some (.string (bA c.other)) ∧ W.cell? ⟨w.heap.size, 3, none⟩ = some (.int .i64 c.a) ∧ W.cell? ⟨w.heap.size, 4, none⟩ = some (.int .i64 c.b) ∧ W.cell? ⟨w.heap.size, 5, none⟩ = some vd :=
  ⟨h.kc.cell 1, h.kc.cell 2, h.kc.cell 3, h.kc.cell 4, h.kc.cell 5⟩
theorem Mw.all (h : Mw w W s g b cp o S p c vd zr G m) : W.cell? ⟨s, 0, none⟩ = some (.pointer (some ⟨g, 0, none⟩)) ∧ W.cell? ⟨b, o, none⟩ = some (.int .i64 p.c.u) ∧ W.cell? ⟨b, o + 1, none⟩ = some (.int .i64 p.c.g) ∧ W.cell? ⟨b, o + 2, none⟩ = some (.slice G p.c.gs.length m) ∧ W.cell? ⟨b, o + 3, none⟩ = some (.int .i64 p.um) ∧ W.cell? ⟨w.heap.size, 1, none⟩ = some (.string (bA c.path)) ∧ W.cell? ⟨w.heap.size, 2, none⟩ = some (.string (bA c.other)) ∧ W.cell? ⟨w.heap.size, 3, none⟩ = some (.int .i64 c.a) ∧ W.cell? ⟨w.heap.size, 4, none⟩ = some (.int .i64 c.b) ∧ W.cell? ⟨w.heap.size, 5, none⟩ = some vd :=
  ⟨h.sys, h.pc.c0, h.pc.c1, h.pc.c2, h.pc.c3, h.cal⟩
theorem Mw.tabbed (h : Mw w W s g b cp o S p c vd zr G m) {T : List Nd} (ht : TabR w5 g T (fun _ => True)) (hg : W.grownBy w5 (some g)) : Sq w5 s g b cp ⟨T, S.p⟩ ∧ Fix [g, b] w w5 ∧ Blk w5 zr 57 resZ ∧ Blk w5 w.heap.size 51 (calC c vd) ∧ PrC w5 b o p G m := by
  obtain ⟨ct, hct, -⟩ := h.sq.tab.blk
  obtain ⟨cs, hk, hl⟩ := h.sq.row
  have hbg : b ≠ g := blk_ne hk hct (by decide)
  refine ⟨h.sq.tabbed ht hg, (Fix.of_below h.blo).trans (Fix.of_grown hg (List.mem_cons_self ..)), h.kr.kept hg (some_ne (blk_ne h.kr hct (by decide))), h.kc.kept hg (some_ne (blk_ne h.kc hct (by decide))), h.pc.same (fun j u _ hu => ?_) (h.pc.gs.kind hct (by decide) hg)⟩
  rw [← hu]
  exact World.cell?_of_block (hg.block b hk.lt (some_ne hbg))
theorem Mw.after (h : Mw w W s g b cp o S p c vd zr G m) {T : List Nd} (ht : TabR w5 g T (fun _ => True)) (hg : W.grownBy w5 (some g)) : w5.cell? ⟨s, 0, none⟩ = some (.pointer (some ⟨g, 0, none⟩)) ∧ w5.cell? ⟨b, o, none⟩ = some (.int .i64 p.c.u) ∧ w5.cell? ⟨b, o + 1, none⟩ = some (.int .i64 p.c.g) ∧ w5.cell? ⟨b, o + 2, none⟩ = some (.slice G p.c.gs.length m) ∧ w5.cell? ⟨b, o + 3, none⟩ = some (.int .i64 p.um) ∧ w5.cell? ⟨w.heap.size, 1, none⟩ = some (.string (bA c.path)) ∧ w5.cell? ⟨w.heap.size, 2, none⟩ = some (.string (bA c.other)) ∧ w5.cell? ⟨w.heap.size, 3, none⟩ = some (.int .i64 c.a) ∧ w5.cell? ⟨w.heap.size, 4, none⟩ = some (.int .i64 c.b) ∧ w5.cell? ⟨w.heap.size, 5, none⟩ = some vd := by
  obtain ⟨h1, -, -, h4, h5⟩ := h.tabbed ht hg
  exact ⟨by have := h1.blk.cell 0; simpa using this, h5.c0, h5.c1, h5.c2, h5.c3, h4.cell 1, h4.cell 2, h4.cell 3, h4.cell 4, h4.cell 5⟩
theorem Mw.done (h : Mw w W s g b cp o S p c vd zr G m) {T : List Nd} (ht : TabR w5 g T (fun _ => True)) (hg : W.grownBy w5 (some g)) (u0 u1 u2 u3 u4 u5 u6 u7 u8 u9 u10 u11 : Value) : ((((((((((((w5.setCell ⟨zr, 0, none⟩ u0).setCell ⟨zr, 1, none⟩ u1).setCell ⟨zr, 2, none⟩ u2).setCell ⟨zr, 3, none⟩ u3).setCell ⟨zr, 4, none⟩ u4).setCell ⟨zr, 5, none⟩ u5).setCell ⟨zr, 6, none⟩ u6).setCell ⟨zr, 7, none⟩ u7).setCell ⟨zr, 8, none⟩ u8).setCell ⟨zr, 9, none⟩ u9).setCell ⟨zr, 10, none⟩ u10).setCell ⟨zr, 11, none⟩ u11).cell? ⟨s, 0, none⟩ = some (.pointer (some ⟨g, 0, none⟩)) ∧ ((((((((((((w5.setCell ⟨zr, 0, none⟩ u0).setCell ⟨zr, 1, none⟩ u1).setCell ⟨zr, 2, none⟩ u2).setCell ⟨zr, 3, none⟩ u3).setCell ⟨zr, 4, none⟩ u4).setCell ⟨zr, 5, none⟩ u5).setCell ⟨zr, 6, none⟩ u6).setCell ⟨zr, 7, none⟩ u7).setCell ⟨zr, 8, none⟩ u8).setCell ⟨zr, 9, none⟩ u9).setCell ⟨zr, 10, none⟩ u10).setCell ⟨zr, 11, none⟩ u11).cell? ⟨b, o, none⟩ = some (.int .i64 p.c.u) ∧ ((((((((((((w5.setCell ⟨zr, 0, none⟩ u0).setCell ⟨zr, 1, none⟩ u1).setCell ⟨zr, 2, none⟩ u2).setCell ⟨zr, 3, none⟩ u3).setCell ⟨zr, 4, none⟩ u4).setCell ⟨zr, 5, none⟩ u5).setCell ⟨zr, 6, none⟩ u6).setCell ⟨zr, 7, none⟩ u7).setCell ⟨zr, 8, none⟩ u8).setCell ⟨zr, 9, none⟩ u9).setCell ⟨zr, 10, none⟩ u10).setCell ⟨zr, 11, none⟩ u11).cell? ⟨b, o + 1, none⟩ = some (.int .i64 p.c.g) ∧ ((((((((((((w5.setCell ⟨zr, 0, none⟩ u0).setCell ⟨zr, 1, none⟩ u1).setCell ⟨zr, 2, none⟩ u2).setCell ⟨zr, 3, none⟩ u3).setCell ⟨zr, 4, none⟩ u4).setCell ⟨zr, 5, none⟩ u5).setCell ⟨zr, 6, none⟩ u6).setCell ⟨zr, 7, none⟩ u7).setCell ⟨zr, 8, none⟩ u8).setCell ⟨zr, 9, none⟩ u9).setCell ⟨zr, 10, none⟩ u10).setCell ⟨zr, 11, none⟩ u11).cell? ⟨b, o + 2, none⟩ = some (.slice G p.c.gs.length m) ∧ ((((((((((((w5.setCell ⟨zr, 0, none⟩ u0).setCell ⟨zr, 1, none⟩ u1).setCell ⟨zr, 2, none⟩ u2).setCell ⟨zr, 3, none⟩ u3).setCell ⟨zr, 4, none⟩ u4).setCell ⟨zr, 5, none⟩ u5).setCell ⟨zr, 6, none⟩ u6).setCell ⟨zr, 7, none⟩ u7).setCell ⟨zr, 8, none⟩ u8).setCell ⟨zr, 9, none⟩ u9).setCell ⟨zr, 10, none⟩ u10).setCell ⟨zr, 11, none⟩ u11).cell? ⟨b, o + 3, none⟩ = some (.int .i64 p.um) ∧ ((((((((((((w5.setCell ⟨zr, 0, none⟩ u0).setCell ⟨zr, 1, none⟩ u1).setCell ⟨zr, 2, none⟩ u2).setCell ⟨zr, 3, none⟩ u3).setCell ⟨zr, 4, none⟩ u4).setCell ⟨zr, 5, none⟩ u5).setCell ⟨zr, 6, none⟩ u6).setCell ⟨zr, 7, none⟩ u7).setCell ⟨zr, 8, none⟩ u8).setCell ⟨zr, 9, none⟩ u9).setCell ⟨zr, 10, none⟩ u10).setCell ⟨zr, 11, none⟩ u11).cell? ⟨w.heap.size, 1, none⟩ = some (.string (bA c.path)) ∧ ((((((((((((w5.setCell ⟨zr, 0, none⟩ u0).setCell ⟨zr, 1, none⟩ u1).setCell ⟨zr, 2, none⟩ u2).setCell ⟨zr, 3, none⟩ u3).setCell ⟨zr, 4, none⟩ u4).setCell ⟨zr, 5, none⟩ u5).setCell ⟨zr, 6, none⟩ u6).setCell ⟨zr, 7, none⟩ u7).setCell ⟨zr, 8, none⟩ u8).setCell ⟨zr, 9, none⟩ u9).setCell ⟨zr, 10, none⟩ u10).setCell ⟨zr, 11, none⟩ u11).cell? ⟨w.heap.size, 2, none⟩ = some (.string (bA c.other)) ∧ ((((((((((((w5.setCell ⟨zr, 0, none⟩ u0).setCell ⟨zr, 1, none⟩ u1).setCell ⟨zr, 2, none⟩ u2).setCell ⟨zr, 3, none⟩ u3).setCell ⟨zr, 4, none⟩ u4).setCell ⟨zr, 5, none⟩ u5).setCell ⟨zr, 6, none⟩ u6).setCell ⟨zr, 7, none⟩ u7).setCell ⟨zr, 8, none⟩ u8).setCell ⟨zr, 9, none⟩ u9).setCell ⟨zr, 10, none⟩ u10).setCell ⟨zr, 11, none⟩ u11).cell? ⟨w.heap.size, 3, none⟩ = some (.int .i64 c.a) ∧ ((((((((((((w5.setCell ⟨zr, 0, none⟩ u0).setCell ⟨zr, 1, none⟩ u1).setCell ⟨zr, 2, none⟩ u2).setCell ⟨zr, 3, none⟩ u3).setCell ⟨zr, 4, none⟩ u4).setCell ⟨zr, 5, none⟩ u5).setCell ⟨zr, 6, none⟩ u6).setCell ⟨zr, 7, none⟩ u7).setCell ⟨zr, 8, none⟩ u8).setCell ⟨zr, 9, none⟩ u9).setCell ⟨zr, 10, none⟩ u10).setCell ⟨zr, 11, none⟩ u11).cell? ⟨w.heap.size, 4, none⟩ = some (.int .i64 c.b) ∧ ((((((((((((w5.setCell ⟨zr, 0, none⟩ u0).setCell ⟨zr, 1, none⟩ u1).setCell ⟨zr, 2, none⟩ u2).setCell ⟨zr, 3, none⟩ u3).setCell ⟨zr, 4, none⟩ u4).setCell ⟨zr, 5, none⟩ u5).setCell ⟨zr, 6, none⟩ u6).setCell ⟨zr, 7, none⟩ u7).setCell ⟨zr, 8, none⟩ u8).setCell ⟨zr, 9, none⟩ u9).setCell ⟨zr, 10, none⟩ u10).setCell ⟨zr, 11, none⟩ u11).cell? ⟨w.heap.size, 5, none⟩ = some vd := by
  obtain ⟨h1, -, h3, h4, h5⟩ := h.tabbed ht hg
  have hz := grown12 w5 zr u0 u1 u2 u3 u4 u5 u6 u7 u8 u9 u10 u11
  obtain ⟨cs, hk, -⟩ := h1.row
  have key : ∀ (a : Addr) (u : Value), w5.cell? a = some u → a.block ≠ zr → (put12 w5 zr u0 u1 u2 u3 u4 u5 u6 u7 u8 u9 u10 u11).cell? a = some u := fun a u hu hne => by
    rw [← hu]
    exact World.cell?_of_block (hz.block a.block (World.block_lt_of_cell? _ _ hu) (some_ne hne))
  have ns : s ≠ zr := blk_ne h1.blk h3 (by decide)
  have nb : b ≠ zr := blk_ne hk h3 (by decide)
  have nc : w.heap.size ≠ zr := blk_ne h4 h3 (by decide)
  obtain ⟨a0, a1, a2, a3, a4, a5, a6, a7, a8, a9⟩ := h.after ht hg
  exact ⟨key _ _ a0 ns, key _ _ a1 nb, key _ _ a2 nb, key _ _ a3 nb, key _ _ a4 nb, key _ _ a5 nc, key _ _ a6 nc, key _ _ a7 nc, key _ _ a8 nc, key _ _ a9 nc⟩
end
theorem doq_fin {w w5 : World} {s g b cp zr : Nat} {S' : Sym} {r : Rsm} {A1 A2 : Option Addr} {n1 c1 n2 c2 : Nat} (hs : Sq w5 s g b cp S') (hf : Fix [g, b] w w5) (hk : Blk w5 zr 57 resZ) (hz : w.heap.size ≤ zr) (hl : RsL w5 r A1 n1 c1 A2 n2 c2) :
    DoQ w s g b cp (S', r) (.returned (.agg (resC r (.slice A1 n1 c1) (.slice A2 n2 c2)))) (put12 w5 zr (.int .i64 r.err) (.int .i64 r.n) (.int .i64 r.stat.node) (.int .i64 r.stat.kind) (.int .i64 r.stat.mode) (.int .i64 r.stat.uid) (.int .i64 r.stat.gid) (.int .i64 r.stat.links) (.int .i64 r.stat.size) (.string (bA r.text)) (.slice A1 n1 c1) (.slice A2 n2 c2)) := by
  have hg := grown12 w5 zr (.int .i64 r.err) (.int .i64 r.n) (.int .i64 r.stat.node) (.int .i64 r.stat.kind) (.int .i64 r.stat.mode) (.int .i64 r.stat.uid) (.int .i64 r.stat.gid) (.int .i64 r.stat.links) (.int .i64 r.stat.size) (.string (bA r.text)) (.slice A1 n1 c1) (.slice A2 n2 c2)
  exact ⟨A1, n1, c1, A2, n2, c2, rfl, hl.kind hk hg (by decide) (by decide), hs.kind hk hg (by decide) (by decide) (by decide) (by decide) (by decide) (by decide), hf.far hg hz⟩
theorem doq_e {w w5 : World} {s g b cp zr : Nat} {S' : Sym} (x : Int) (hs : Sq w5 s g b cp S') (hf : Fix [g, b] w w5) (hk : Blk w5 zr 57 resZ) (hz : w.heap.size ≤ zr) :
    DoQ w s g b cp (S', Rsm.e x) (.returned (.agg #[.int .i64 x, .int .i64 0, .int .i64 0, .int .i64 0, .int .i64 0, .int .i64 0, .int .i64 0, .int .i64 0, .int .i64 0, .string ⟨#[]⟩, .slice none 0 0, .slice none 0 0])) (put12 w5 zr (.int .i64 x) (.int .i64 0) (.int .i64 0) (.int .i64 0) (.int .i64 0) (.int .i64 0) (.int .i64 0) (.int .i64 0) (.int .i64 0) (.string ⟨#[]⟩) (.slice none 0 0) (.slice none 0 0)) :=
  doq_fin (r := Rsm.e x) hs hf hk hz (RsL.none w5 rfl rfl)
end Go.Proofs.YtnkjaocmfhjnoaaGreat
namespace Go.Proofs.YtnkjaocmfhjnoaaGreat
open Go Go.RowKit

theorem sticky_any (u g : Int) (A : Option Addr) (n c : Nat) (m d x : Int) (w : World) :
    Calls Tryz.prog 199 #[.agg #[.int .i64 u, .int .i64 g, .slice A n c], .int .i64 m, .int .i64 d, .int .i64 x] w fun e w' => e = .returned (.bool (u == 0 || bits .and .i64 m 512 == 0 || d == u || x == u)) ∧ Below w.heap.size w w' := by
  go_enter Tryz.func199, Tryz.ntmps199
  go_wp2_with fail
  have k0 : (w.alloc (.cells #[.int .i64 u, .int .i64 g, .slice A n c] 30)).cell? ⟨w.heap.size, 0, none⟩ = some (.int .i64 u) := by simp
  have k1 : (w.alloc (.cells #[.int .i64 u, .int .i64 g, .slice A n c] 30)).cell? ⟨w.heap.size, 1, none⟩ = some (.int .i64 g) := by simp
  have k2 : (w.alloc (.cells #[.int .i64 u, .int .i64 g, .slice A n c] 30)).cell? ⟨w.heap.size, 2, none⟩ = some (.slice A n c) := by simp
  have hb : Below w.heap.size w (w.alloc (.cells #[.int .i64 u, .int .i64 g, .slice A n c] 30)) := ba _ _
  generalize w.alloc (.cells #[.int .i64 u, .int .i64 g, .slice A n c] 30) = W1 at k0 k1 k2 hb ⊢
  have hs0 : W1.drew.cell? ⟨w.heap.size, 0, none⟩ = some (.int .i64 u) := k0
  have hs1 : W1.drew.cell? ⟨w.heap.size, 1, none⟩ = some (.int .i64 g) := k1
  have hs2 : W1.drew.cell? ⟨w.heap.size, 2, none⟩ = some (.slice A n c) := k2
  have hs3 := hb.drew
  go_region_held3 (fun w' => w'.cell? ⟨w.heap.size, 0, none⟩ = some (.int .i64 u) ∧ w'.cell? ⟨w.heap.size, 1, none⟩ = some (.int .i64 g) ∧ w'.cell? ⟨w.heap.size, 2, none⟩ = some (.slice A n c) ∧ Below w.heap.size w w')
    (first | exact ⟨hs0, hs1, hs2, hs3⟩ | exact ⟨bc hb4 hs0, bc hb4 hs1, bc hb4 hs2, bt hb4 hs3⟩ | exact ⟨bc (ba _ _) (bc hb4 hs0), bc (ba _ _) (bc hb4 hs1), bc (ba _ _) (bc hb4 hs2), bt (ba _ _) (bt hb4 hs3)⟩)
    (first | (go_at_call 171; refine (isRoot_any _ _ _ _ _ _).mono ?_; rintro e w4 ⟨rfl, hb4⟩) | (go_at_call 170; refine (anyOf4 _ _ _ _ _).mono ?_; rintro e w5 ⟨rfl, rfl⟩))
  all_goals
    go_wp2
    go_ret
    exact ⟨rfl, bt (ba _ _) (bt hb4 hs3)⟩

end Go.Proofs.YtnkjaocmfhjnoaaGreat
namespace Go.Proofs.YtnkjaocmfhjnoaaGreat
open Go Go.RowKit
set_option maxRecDepth 100000

theorem and511 (n : Int) : bits .and .i64 n 511 = n % 512 := and_mask n 9 511 (by decide) (by decide)
theorem msk_bits (mode umask : Int) : bits .andNot .i64 (bits .and .i64 mode 511) umask = mskM mode umask := by
  rw [and511]
  obtain ⟨A, hA⟩ : ∃ A, (BitVec.ofInt 64 (mode % 512) &&& ~~~(BitVec.ofInt 64 umask)).toNat = A := ⟨_, rfl⟩
  have hx : (BitVec.ofInt 64 (mode % 512)).toNat = (mode % 512).toNat := by
    rw [BitVec.toNat_ofInt]
    omega
  have hbit : ∀ i, i < 64 → A.testBit i = ((mode % 512).toNat.testBit i && !((umask % ((2 ^ 64 : Nat) : Int)).toNat.testBit i)) := fun i hi => by
    rw [← hA, BitVec.testBit_toNat, BitVec.getLsbD_and, BitVec.getLsbD_not, ← BitVec.testBit_toNat, ← BitVec.testBit_toNat, hx, BitVec.toNat_ofInt]
    simp [hi]
  have hlt : A < 2 ^ 9 := by
    have h1 : A ≤ (mode % 512).toNat := by
      rw [← hA, BitVec.toNat_and, hx]
      exact Nat.and_le_left
    omega
  have he : A = ofB (mskF mode umask) 9 := eq_ofB A 9 _ hlt (fun i hi => by
    rw [hbit i (by omega)]
    have e1 : (mode % 512).toNat = (mode % 4096).toNat % 2 ^ 9 := by omega
    have e2 : (umask % 4096).toNat = (umask % ((2 ^ 64 : Nat) : Int)).toNat % 2 ^ 12 := by omega
    unfold mskF
    rw [e1, e2, Nat.testBit_mod_two_pow, Nat.testBit_mod_two_pow]
    simp [hi, show i < 12 by omega])
  show IntKind.i64.wrap (((BitVec.ofInt 64 (mode % 512) &&& ~~~(BitVec.ofInt 64 umask)).toNat : Nat) : Int) = _
  rw [hA, he]
  exact wraps_i64 _ (by omega) (by have := ofB_lt (mskF mode umask) 9; omega)
theorem orI_comm (a b : Int) (ha : 0 ≤ a ∧ a < 2 ^ 62) (hb : 0 ≤ b ∧ b < 2 ^ 62) : bits .or .i64 a b = bits .or .i64 b a := by
  have h := (bits_nat .i64 62 (by decide) wraps_i64 a.toNat b.toNat (by omega) (by omega)).2
  have h2 := (bits_nat .i64 62 (by decide) wraps_i64 b.toNat a.toNat (by omega) (by omega)).2
  rw [show ((a.toNat : Nat) : Int) = a by omega, show ((b.toNat : Nat) : Int) = b by omega] at h h2
  rw [h, h2, Nat.or_comm]
theorem or_zero {a : Int} (h0 : 0 ≤ a) (h1 : a < 2 ^ 20) : bits .or .i64 0 a = a := by
  rw [or_join 20 0 a (by decide) (by decide) (by decide) h0 (by omega) (by omega), Int.zero_add]
def sumB (l : List Int) : Int := l.foldl (fun a b => bits .or .i64 a b) 0
theorem sum_wx : sumB [2, 1] = 3 := by decide +kernel
theorem bit9 (m : Int) : m / 512 % 2 = if (m % 4096).toNat.testBit 9 = true then 1 else 0 := by
  rw [Nat.testBit_eq_decide_div_mod_eq]
  simp only [decide_eq_true_eq]
  split <;> omega
theorem bit10 {m : Int} (h : 0 ≤ m) : m / 1024 % 2 = if m.toNat.testBit 10 = true then 1 else 0 := by
  rw [Nat.testBit_eq_decide_div_mod_eq]
  simp only [decide_eq_true_eq]
  split <;> omega
theorem sum_mk {mode umask : Int} {n : Nd} (h : 0 ≤ n.mode) : sumB [mskM mode umask, bits .and .i64 mode 512, bits .and .i64 n.mode 1024] = if sgB n = true then mkM mode umask + 1024 else mkM mode umask := by
  have hm := msk_bd mode umask
  have e1 : bits .or .i64 0 (mskM mode umask) = mskM mode umask := or_zero hm.1 (by omega)
  have e2 : bits .or .i64 (mskM mode umask) (bits .and .i64 mode 512) = mkM mode umask := by
    rw [and512, orI_comm _ _ ⟨hm.1, by omega⟩ ⟨by omega, by omega⟩, or_join 9 _ _ (by omega) (by omega) (by omega) hm.1 (by omega) (by omega), bit9]
    unfold mkM
    split <;> omega
  have hk := mk_bd mode umask
  show bits .or .i64 (bits .or .i64 (bits .or .i64 0 (mskM mode umask)) (bits .and .i64 mode 512)) (bits .and .i64 n.mode 1024) = _
  rw [e1, e2, and1024, orI_comm _ _ ⟨hk.1, by omega⟩ ⟨by omega, by omega⟩, or_join 10 _ _ (by omega) (by omega) (by omega) hk.1 (by omega) (by omega), bit10 h]
  unfold sgB
  split <;> omega
theorem sg_bits {n : Nd} (h : 0 ≤ n.mode) : (bits .and .i64 n.mode 1024 != 0) = sgB n := by
  rw [and1024, bit10 h]
  unfold sgB
  cases n.mode.toNat.testBit 10 <;> rfl
end Go.Proofs.YtnkjaocmfhjnoaaGreat
namespace Go.Proofs.YtnkjaocmfhjnoaaGreat
open Go Go.RowKit
set_option maxRecDepth 100000

attribute [local go_sem] cell_off4 cell_blk4
theorem masked_any (mode umask : Int) (w : World) : Calls Tryz.prog 138 #[.int .i64 mode, .int .i64 umask] w fun e w' => e = .returned (.int .i64 (mskM mode umask)) ∧ w = w' := by
  go_enter Tryz.func138, Tryz.ntmps138
  go_wp2
  go_ret
  exact ⟨ret_int (by rw [msk_bits]), rfl⟩
set_option maxHeartbeats 4000000 in
theorem sum_any (A : Option Addr) (n c : Nat) (l : List Int) (w : World) (h : IntsR w (.slice A n c) l) (hn : l.length ≤ 1000) :
    Calls Tryz.prog 137 #[.slice A n c] w fun e w' => e = .returned (.int .i64 (sumB l)) ∧ w = w' := by
  obtain ⟨A', c', he, hc⟩ := h
  injection he with e1 e2 e3
  subst e1 e2 e3
  have HC := Lib.hid hc
  clear hc
  go_enter Tryz.func137, Tryz.ntmps137
  go_wp2
  go_loopg [3, 8] l.length (fun g s3 s8 wr => ∃ k : Nat, s8 = .int .i64 k ∧ s3 = .int .i64 (sumB (l.take k)) ∧ k ≤ l.length ∧ g = l.length - k ∧ w = wr)
  case atStart => exact ⟨0, rfl, rfl, Nat.zero_le _, rfl, rfl⟩
  case round =>
    obtain ⟨k, rfl, rfl, hk, rfl, rfl⟩ := hrel
    by_cases hlt : k < l.length
    · obtain ⟨y, hy⟩ : ∃ y, l[k]? = some y := ⟨_, List.getElem?_eq_getElem hlt⟩
      obtain ⟨ad, rfl, c0⟩ := HC.out k y hy
      have HS := Lib.hid (show sumB (l.take (k + 1)) = bits .or .i64 (sumB (l.take k)) y from by
        rw [take_snoc' hy]
        unfold sumB
        rw [List.foldl_append]
        rfl)
      clear hy
      generalize sumB (l.take k) = X at HS ⊢
      go_wp2
      go_roundg (l.length - (k + 1))
      case measure => omega
      case rel => exact ⟨k + 1, by go_num, by rw [HS.out], by omega, rfl, rfl⟩
    · have HT := Lib.hid (show sumB (l.take k) = sumB l from by rw [List.take_of_length_le (by omega)])
      generalize sumB (l.take k) = X at HT ⊢
      go_wp2
      go_ret
      exact ⟨ret_int (by rw [HT.out]), rfl⟩
theorem ints_two {W : World} {x : Nat} {t : TypeId} {a b : Int} (h : Blk W x t #[.int .i64 a, .int .i64 b]) : IntsR W (.slice (some ⟨x, 0, none⟩) 2 2) [a, b] := by
  refine ⟨_, 2, rfl, fun k e hk => ⟨_, rfl, ?_⟩⟩
  rw [add_lit]
  match k, hk with
  | 0, hk => have e1 : a = e := by simpa using hk
             rw [← e1]; exact h.cell 0
  | 1, hk => have e1 : b = e := by simpa using hk
             rw [← e1]; exact h.cell 1
  | k + 2, hk => simp at hk
theorem ints_three {W : World} {x : Nat} {t : TypeId} {a b c : Int} (h : Blk W x t #[.int .i64 a, .int .i64 b, .int .i64 c]) : IntsR W (.slice (some ⟨x, 0, none⟩) 3 3) [a, b, c] := by
  refine ⟨_, 3, rfl, fun k e hk => ⟨_, rfl, ?_⟩⟩
  rw [add_lit]
  match k, hk with
  | 0, hk => have e1 : a = e := by simpa using hk
             rw [← e1]; exact h.cell 0
  | 1, hk => have e1 : b = e := by simpa using hk
             rw [← e1]; exact h.cell 1
  | 2, hk => have e1 : c = e := by simpa using hk
             rw [← e1]; exact h.cell 2
  | k + 3, hk => simp at hk
theorem putC_below {W w8 : World} {d : Nat} (u0 u1 u2 u3 u4 u5 u6 : Value) (h : Below W.heap.size W w8) (hd : W.heap.size ≤ d) : Below W.heap.size W (((((((w8.setCell ⟨d, 0, none⟩ u0).setCell ⟨d, 1, none⟩ u1).setCell ⟨d, 2, none⟩ u2).setCell ⟨d, 3, none⟩ u3).setCell ⟨d, 4, none⟩ u4).setCell ⟨d, 5, none⟩ u5).setCell ⟨d, 6, none⟩ u6) :=
  below_grown h (grown7 w8 d u0 u1 u2 u3 u4 u5 u6) hd
set_option maxHeartbeats 8000000 in
theorem mkC_any (mb ub : Nat) (mode umask : Int) (n : Nd) (hmode : 0 ≤ n.mode) (A A' : Option Addr) (i c i' c' : Nat) (w : World) (hm : w.cell? ⟨mb, 0, none⟩ = some (.int .i64 mode)) (hu : w.cell? ⟨ub, 0, none⟩ = some (.int .i64 umask)) :
    Calls Tryz.prog 136 #[nodeV n (.slice A i c) (.slice A' i' c'), .pointer (some ⟨mb, 0, none⟩), .pointer (some ⟨ub, 0, none⟩)] w fun e w' => e = .returned (nodeV ⟨2, if sgB n = true then mkM mode umask + 1024 else mkM mode umask, 0, 0, [], [], []⟩ (.slice none 0 0) (.slice none 0 0)) ∧ Below w.heap.size w w' := by
  obtain ⟨X, hX⟩ : ∃ X, X = w.alloc (.cells (ndC n (.slice A i c) (.slice A' i' c')) 65) := ⟨_, rfl⟩
  have hbX : Below w.heap.size w X := by rw [hX]; exact ba _ _
  have hkX : Blk X w.heap.size 65 (ndC n (.slice A i c) (.slice A' i' c')) := by rw [hX]; exact Blk.new _ _ _
  obtain ⟨W1, hW1⟩ : ∃ W1, W1 = X.alloc (.cells ndZ 65) := ⟨_, rfl⟩
  have hb1 : Below X.heap.size X W1 := by rw [hW1]; exact ba _ _
  have hkr : Blk W1 X.heap.size 65 ndZ := by rw [hW1]; exact Blk.new _ _ _
  obtain ⟨D, hD⟩ : ∃ D, (if sgB n = true then mkM mode umask + 1024 else mkM mode umask) = D := ⟨_, rfl⟩
  have hsum := sum_mk (mode := mode) (umask := umask) hmode
  rw [hD] at hsum ⊢
  obtain ⟨M, hM⟩ : ∃ M, mskM mode umask = M := ⟨_, rfl⟩
  rw [hM] at hsum
  have HM := Lib.hid (fun (W : World) => show Calls Tryz.prog 138 #[.int .i64 mode, .int .i64 umask] W fun e w' => e = .returned (.int .i64 M) ∧ W = w' from by have h1 := masked_any mode umask W; rw [hM] at h1; exact h1)
  have HBX := Lib.hid hbX
  have HS := Lib.hid (fun (W : World) (hb : Below X.heap.size X W) (hk : Blk W X.heap.size 65 ndZ) => show Calls Tryz.prog 137 #[.slice (some ⟨W.heap.size, 0, none⟩) 3 3] (W.alloc (.cells #[.int .i64 M, .int .i64 (bits .and .i64 mode 512), .int .i64 (bits .and .i64 n.mode 1024)] 3)) fun e w' => e = .returned (.int .i64 D) ∧ Below X.heap.size X w' ∧ Blk w' X.heap.size 65 ndZ from by
    have h1 := sum_any _ 3 3 [M, bits .and .i64 mode 512, bits .and .i64 n.mode 1024] (W.alloc (.cells #[.int .i64 M, .int .i64 (bits .and .i64 mode 512), .int .i64 (bits .and .i64 n.mode 1024)] 3)) (ints_three (Blk.new W 3 #[.int .i64 M, .int .i64 (bits .and .i64 mode 512), .int .i64 (bits .and .i64 n.mode 1024)])) (by simp)
    rw [hsum] at h1
    refine h1.mono ?_
    rintro e w' ⟨rfl, rfl⟩
    exact ⟨rfl, al hb _, hk.alloc _⟩)
  have HPR := Lib.hid (fun (W : World) (hb : Below X.heap.size X W) => show W.cell? ⟨mb, 0, none⟩ = some (.int .i64 mode) ∧ W.cell? ⟨ub, 0, none⟩ = some (.int .i64 umask) ∧ W.cell? ⟨w.heap.size, 1, none⟩ = some (.int .i64 n.mode) from
    ⟨bc hb (bc hbX hm), bc hb (bc hbX hu), (hkX.below hb).cell 1⟩)
  have HJ := Lib.hid hb1.drew
  have HKR := Lib.hid (hkr.below (Below.refl _ _).drew)
  obtain ⟨k0, k1, k2⟩ := HPR.out W1 hb1
  clear hb1 hkr hm hu hM hD hsum hkX hbX
  have hW2 := hW1.symm
  clear hW1
  have hX2 := hX.symm
  clear hX
  unfold nodeV
  unfold ndC at hX2
  go_enter Tryz.func136, Tryz.ntmps136
  go_wp2_with fail
  go_still_tail 8, (by kernel_rfl)
  still_call ((HM.out _).mono fun _ _ h => ⟨h.1, h.2.symm⟩)
  repeat still_step
  refine wpStill_nil ?_
  change wpList _ _ _ _ _ (World.drew _)
  have hj := HJ.out
  have hk := HKR.out
  clear hW2 hX2 k0 k1 k2 HM HJ HKR HPR
  generalize W1.drew = W2 at hj hk ⊢
  have HC := Lib.hid (HS.out W2 hj hk)
  clear hj hk HS
  go_wp2_with fail
  refine HC.out.mono ?_
  rintro e w3 ⟨rfl, hj, hk⟩
  have HJ2 := Lib.hid hj
  obtain ⟨f0, f1, f2, f3, f4, f5, f6⟩ := hk.f7
  obtain ⟨r0, r1, r2, r3, r4, r5, r6⟩ := hk.c7
  obtain ⟨s0, s1, s2, s3, s4, s5, s6⟩ := hk.s7
  clear hj hk HC
  go_wp2
  exact bodyPost_ret (v := .agg #[.int .i64 2, .int .i64 D, .int .i64 0, .int .i64 0, .slice none 0 0, .slice none 0 0, .string ⟨#[]⟩]) (by simp [results, Tryz.results136, go_sem, s0, s1, s2, s3, s4, s5, s6]) rfl ⟨rfl, bt (putC_below _ _ _ _ _ _ _ HJ2.out (Nat.le_refl _)) HBX.out⟩
def ownd (n : Nd) (c : Wh) (d : Nd) : Nd := { n with uid := c.u, gid := if sgB d = true then d.gid else c.g }
theorem two_law {W : World} {z : Nat} {n : Nd} {vd ve : Value} (h : Blk W z 65 (ndC n vd ve)) (U G : Int) : Blk ((W.setCell ⟨z, 2, none⟩ (.int .i64 U)).setCell ⟨z, 3, none⟩ (.int .i64 G)).drew z 65 (ndC { n with uid := U, gid := G } vd ve) :=
  Blk.below (w := (W.setCell ⟨z, 2, none⟩ (.int .i64 U)).setCell ⟨z, 3, none⟩ (.int .i64 G)) ((h.set_ 2 _).set_ 3 _) (Below.refl _ _).drew
theorem two_grown (W : World) (z : Nat) (u v : Value) : W.grownBy ((W.setCell ⟨z, 2, none⟩ u).setCell ⟨z, 3, none⟩ v) (some z) := grown_trans (grown_setCell _ _ _) (grown_setCell _ _ _)
theorem cell_oth {w : World} {a b : Addr} {u v : Value} (h : w.cell? b = some u) (hne : a ≠ b) : (w.setCell a v).cell? b = some u := by
  first
    | (rw [World.cell?_setCell_other _ _ _ _ (fun e => hne e)]; exact h)
    | (rw [World.cell?_setCell_other _ _ _ _ (fun e => hne e.symm)]; exact h)
theorem oth_ne {b c i j : Nat} (h : b ≠ c ∨ i ≠ j) : (⟨b, i, none⟩ : Addr) ≠ ⟨c, j, none⟩ := fun e => by
  injection e with e1 e2
  rcases h with h | h
  · exact h e1
  · exact h e2
end Go.Proofs.YtnkjaocmfhjnoaaGreat
