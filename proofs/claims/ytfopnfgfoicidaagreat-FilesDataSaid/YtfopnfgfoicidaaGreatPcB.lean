/-
  Package plant's owned and plant: a node that is made where a path leads. The conditions are said at each.
-/
import Derived.Test.YtfopnfgfoicidaaGreatPcA
import Derived.Test.YtfopnfgfoicidaaGreatWB
namespace Go.Proofs.YtfopnfgfoicidaaGreat
open Go Go.RowKit
set_option maxRecDepth 100000

attribute [local go_sem] cell_off4 cell_blk4
set_option maxHeartbeats 16000000 in
theorem owned_any (n : Nd) (c : Wh) (A0 : Option Addr) (m k : Nat) (d : Nd) (hd : 0 ≤ d.mode) (A A' B B' : Option Addr) (i ci i' ci' j cj j' cj' : Nat) (w : World) :
    Calls Tryz.prog 101 #[nodeV n (.slice A i ci) (.slice A' i' ci'), .agg #[.int .i64 c.u, .int .i64 c.g, .slice A0 m k], nodeV d (.slice B j cj) (.slice B' j' cj')] w fun e w' => e = .returned (nodeV (ownd n c d) (.slice A i ci) (.slice A' i' ci')) ∧ Below w.heap.size w w' := by
  have HSG := Lib.hid (sg_bits hd)
  have hb1 := ba w (.cells (ndC n (.slice A i ci) (.slice A' i' ci')) 56)
  have h11 := Blk.new w 56 (ndC n (.slice A i ci) (.slice A' i' ci'))
  obtain ⟨W1, hW1⟩ : ∃ W1, w.alloc (.cells (ndC n (.slice A i ci) (.slice A' i' ci')) 56) = W1 := ⟨_, rfl⟩
  rw [hW1] at hb1 h11
  have hb2 := al hb1 (.cells #[.int .i64 c.u, .int .i64 c.g, .slice A0 m k] 25)
  have h12 := h11.alloc (.cells #[.int .i64 c.u, .int .i64 c.g, .slice A0 m k] 25)
  have h22 := Blk.new W1 25 #[.int .i64 c.u, .int .i64 c.g, .slice A0 m k]
  have n12 : w.heap.size ≠ W1.heap.size := Nat.ne_of_lt h11.lt
  obtain ⟨W2, hW2⟩ : ∃ W2, W1.alloc (.cells #[.int .i64 c.u, .int .i64 c.g, .slice A0 m k] 25) = W2 := ⟨_, rfl⟩
  rw [hW2] at hb2 h12 h22
  have hb3 := al hb2 (.cells (ndC d (.slice B j cj) (.slice B' j' cj')) 56)
  have h13 := h12.alloc (.cells (ndC d (.slice B j cj) (.slice B' j' cj')) 56)
  have h23 := h22.alloc (.cells (ndC d (.slice B j cj) (.slice B' j' cj')) 56)
  have h33 := Blk.new W2 56 (ndC d (.slice B j cj) (.slice B' j' cj'))
  have n13 : w.heap.size ≠ W2.heap.size := Nat.ne_of_lt h12.lt
  obtain ⟨W3, hW3⟩ : ∃ W3, W2.alloc (.cells (ndC d (.slice B j cj) (.slice B' j' cj')) 56) = W3 := ⟨_, rfl⟩
  rw [hW3] at hb3 h13 h23 h33
  have hb4 := al hb3 (.cells ndZ 56)
  have h14 := h13.alloc (.cells ndZ 56)
  have h24 := h23.alloc (.cells ndZ 56)
  have h34 := h33.alloc (.cells ndZ 56)
  have h44 := Blk.new W3 56 ndZ
  have n14 : w.heap.size ≠ W3.heap.size := Nat.ne_of_lt h13.lt
  have l4 : w.heap.size ≤ W3.heap.size := hb3.size
  obtain ⟨W4, hW4⟩ : ∃ W4, W3.alloc (.cells ndZ 56) = W4 := ⟨_, rfl⟩
  rw [hW4] at hb4 h14 h24 h34 h44
  obtain ⟨z2, hz2⟩ : ∃ z, W1.heap.size = z := ⟨_, rfl⟩
  obtain ⟨z3, hz3⟩ : ∃ z, W2.heap.size = z := ⟨_, rfl⟩
  obtain ⟨z4, hz4⟩ : ∃ z, W3.heap.size = z := ⟨_, rfl⟩
  rw [hz2] at h24 n12
  rw [hz3] at h34 n13
  rw [hz4] at h44 n14 l4
  have HB := Lib.hid hb4
  have H1 := Lib.hid h14
  have H3 := Lib.hid h34
  have H4 := Lib.hid h44
  have HL4 := Lib.hid l4
  have HN3 := Lib.hid n13
  have HN4 := Lib.hid n14
  have p0 := h24.c3.1
  have p1 := h24.c3.2.1
  have u0 : (W4.setCell ⟨w.heap.size, 3, none⟩ (.int .i64 c.g)).cell? ⟨z2, 0, none⟩ = some (.int .i64 c.u) := cell_oth p0 (oth_ne (.inl n12))
  have u1 : (W4.setCell ⟨w.heap.size, 2, none⟩ (.int .i64 c.u)).cell? ⟨z2, 1, none⟩ = some (.int .i64 c.g) := cell_oth p1 (oth_ne (.inl n12))
  obtain ⟨f0, f1, f2, f3, f4, f5, f6⟩ := h14.f7
  obtain ⟨r0, r1, r2, r3, r4, r5, r6⟩ := h14.c7
  have v1 : (W4.setCell ⟨w.heap.size, 3, none⟩ (.int .i64 c.g)).cell? ⟨w.heap.size, 2, none⟩ = some (.int .i64 n.uid) := cell_oth r2 (oth_ne (.inr (by decide)))
  have v2 : (W4.setCell ⟨w.heap.size, 2, none⟩ (.int .i64 c.u)).cell? ⟨w.heap.size, 3, none⟩ = some (.int .i64 n.gid) := cell_oth r3 (oth_ne (.inr (by decide)))
  clear hb1 hb2 hb3 hb4 h11 h12 h13 h14 h22 h23 h24 h33 h34 h44 n12 n13 n14 l4 hd
  unfold ownd nodeV
  unfold ndC at *
  cases hs : sgB d with
  | false =>
    have y : (bits .and .i64 d.mode 1024 != 0) = false := by rw [HSG.out]; exact hs
    go_enter Tryz.func101, Tryz.ntmps101
    go_upto_region 1 with fail
    clear hW1 hW2 hW3 hW4 hz2 hz3 hz4
    go_region_law (fail)
    all_goals (
      have h1 := two_law H1.out c.u c.g
      have hg : W4.grownBy ((W4.setCell ⟨w.heap.size, 2, none⟩ (.int .i64 c.u)).setCell ⟨w.heap.size, 3, none⟩ (.int .i64 c.g)).drew (some w.heap.size) := grown_trans (two_grown W4 w.heap.size (.int .i64 c.u) (.int .i64 c.g)) (grown_below (Below.refl _ _).drew _)
      have h3 := H3.out.kept hg (some_ne HN3.out.symm)
      have h4 := H4.out.kept hg (some_ne HN4.out.symm)
      have hb := below_grown HB.out hg (Nat.le_refl _)
      clear f0 f1 f2 f3 f4 f5 f6 r0 r1 r2 r3 r4 r5 r6 u0 u1 v1 v2 p0 p1 hg H1 H3 H4 HB
      generalize ((W4.setCell ⟨w.heap.size, 2, none⟩ (.int .i64 c.u)).setCell ⟨w.heap.size, 3, none⟩ (.int .i64 c.g)).drew = W5 at h1 h3 h4 hb ⊢
      have H1 := Lib.hid h1
      have H4 := Lib.hid h4
      have HB := Lib.hid hb
      have q1 := h3.c7.2.1
      have q3 := h3.c7.2.2.2.1
      clear h1 h3 h4 hb
      have h1 := H1.out
      have h4 := H4.out
      obtain ⟨a0, a1, a2, a3, a4, a5, a6⟩ := h1.c7
      obtain ⟨f0, f1, f2, f3, f4, f5, f6⟩ := h4.f7
      obtain ⟨r0, r1, r2, r3, r4, r5, r6⟩ := h4.c7
      obtain ⟨s0, s1, s2, s3, s4, s5, s6⟩ := h4.s7
      have HE := Lib.hid (below_grown HB.out (grown7 W5 z4 (.int .i64 n.kind) (.int .i64 n.mode) (.int .i64 c.u) (.int .i64 c.g) (.slice A i ci) (.slice A' i' ci') (.string (bA n.target))) HL4.out)
      clear h1 h4
      go_wp2
      exact bodyPost_ret (v := .agg #[.int .i64 n.kind, .int .i64 n.mode, .int .i64 c.u, .int .i64 c.g, .slice A i ci, .slice A' i' ci', .string (bA n.target)]) (by simp [results, Tryz.results101, go_sem, s0, s1, s2, s3, s4, s5, s6]) rfl ⟨rfl, HE.out⟩)
  | true =>
    have y : (bits .and .i64 d.mode 1024 != 0) = true := by rw [HSG.out]; exact hs
    go_enter Tryz.func101, Tryz.ntmps101
    go_upto_region 1 with fail
    clear hW1 hW2 hW3 hW4 hz2 hz3 hz4
    go_region_law (fail)
    all_goals (
      have h1 := two_law H1.out c.u c.g
      have hg : W4.grownBy ((W4.setCell ⟨w.heap.size, 2, none⟩ (.int .i64 c.u)).setCell ⟨w.heap.size, 3, none⟩ (.int .i64 c.g)).drew (some w.heap.size) := grown_trans (two_grown W4 w.heap.size (.int .i64 c.u) (.int .i64 c.g)) (grown_below (Below.refl _ _).drew _)
      have h3 := H3.out.kept hg (some_ne HN3.out.symm)
      have h4 := H4.out.kept hg (some_ne HN4.out.symm)
      have hb := below_grown HB.out hg (Nat.le_refl _)
      clear f0 f1 f2 f3 f4 f5 f6 r0 r1 r2 r3 r4 r5 r6 u0 u1 v1 v2 p0 p1 hg H1 H3 H4 HB
      generalize ((W4.setCell ⟨w.heap.size, 2, none⟩ (.int .i64 c.u)).setCell ⟨w.heap.size, 3, none⟩ (.int .i64 c.g)).drew = W5 at h1 h3 h4 hb ⊢
      have H1 := Lib.hid h1
      have H4 := Lib.hid h4
      have HB := Lib.hid hb
      have q1 := h3.c7.2.1
      have q3 := h3.c7.2.2.2.1
      clear h1 h3 h4 hb
      have h1 := H1.out
      obtain ⟨a0, a1, a2, a3, a4, a5, a6⟩ := h1.c7
      obtain ⟨f0, f1, f2, f3, f4, f5, f6⟩ := h1.f7
      clear h1
      go_upto_region 4 with fail
      clear a0 a1 a2 a3 a4 a5 a6 f0 f1 f2 f3 f4 f5 f6
      have hg := grown_setCell W5 ⟨w.heap.size, 3, none⟩ (.int .i64 d.gid)
      have h1 : Blk (W5.setCell ⟨w.heap.size, 3, none⟩ (.int .i64 d.gid)) w.heap.size 56 #[.int .i64 n.kind, .int .i64 n.mode, .int .i64 c.u, .int .i64 d.gid, .slice A i ci, .slice A' i' ci', .string (bA n.target)] := H1.out.set_ 3 _
      have h4 := H4.out.kept hg (some_ne HN4.out.symm)
      have hb := below_grown HB.out hg (Nat.le_refl _)
      generalize W5.setCell ⟨w.heap.size, 3, none⟩ (.int .i64 d.gid) = W6 at h1 h4 hb ⊢
      obtain ⟨a0, a1, a2, a3, a4, a5, a6⟩ := h1.c7
      obtain ⟨f0, f1, f2, f3, f4, f5, f6⟩ := h4.f7
      obtain ⟨r0, r1, r2, r3, r4, r5, r6⟩ := h4.c7
      obtain ⟨s0, s1, s2, s3, s4, s5, s6⟩ := h4.s7
      have HE := Lib.hid (below_grown hb (grown7 W6 z4 (.int .i64 n.kind) (.int .i64 n.mode) (.int .i64 c.u) (.int .i64 d.gid) (.slice A i ci) (.slice A' i' ci') (.string (bA n.target))) HL4.out)
      clear h1 h4 hb hg q1 q3
      go_wp2
      exact bodyPost_ret (v := .agg #[.int .i64 n.kind, .int .i64 n.mode, .int .i64 c.u, .int .i64 d.gid, .slice A i ci, .slice A' i' ci', .string (bA n.target)]) (by simp [results, Tryz.results101, go_sem, s0, s1, s2, s3, s4, s5, s6]) rfl ⟨rfl, HE.out⟩)
end Go.Proofs.YtfopnfgfoicidaaGreat
