/-
  Package plant's owned and plant: a node that is made where a path leads. The conditions are said at each. Package plant's plant: a node that is made where a path leads. The conditions are said at each. Package plant's Mkdir, Symlink and Create: what they answer. The conditions are said at each.
-/
import Derived.Test.YtnkjaocmfhjnoaaGreatE7
import Derived.Test.YtnkjaocmfhjnoaaGreatE11
namespace Go.Proofs.YtnkjaocmfhjnoaaGreat
open Go Go.RowKit
set_option maxRecDepth 100000

attribute [local go_sem] cell_off4 cell_blk4
set_option maxHeartbeats 16000000 in
theorem owned_any (n : Nd) (c : Wh) (A0 : Option Addr) (m k : Nat) (d : Nd) (hd : 0 ≤ d.mode) (A A' B B' : Option Addr) (i ci i' ci' j cj j' cj' : Nat) (w : World) :
    Calls Tryz.prog 175 #[nodeV n (.slice A i ci) (.slice A' i' ci'), .agg #[.int .i64 c.u, .int .i64 c.g, .slice A0 m k], nodeV d (.slice B j cj) (.slice B' j' cj')] w fun e w' => e = .returned (nodeV (ownd n c d) (.slice A i ci) (.slice A' i' ci')) ∧ Below w.heap.size w w' := by
  have HSG := Lib.hid (sg_bits hd)
  have hb1 := ba w (.cells (ndC n (.slice A i ci) (.slice A' i' ci')) 65)
  have h11 := Blk.new w 65 (ndC n (.slice A i ci) (.slice A' i' ci'))
  obtain ⟨W1, hW1⟩ : ∃ W1, w.alloc (.cells (ndC n (.slice A i ci) (.slice A' i' ci')) 65) = W1 := ⟨_, rfl⟩
  rw [hW1] at hb1 h11
  have hb2 := al hb1 (.cells #[.int .i64 c.u, .int .i64 c.g, .slice A0 m k] 30)
  have h12 := h11.alloc (.cells #[.int .i64 c.u, .int .i64 c.g, .slice A0 m k] 30)
  have h22 := Blk.new W1 30 #[.int .i64 c.u, .int .i64 c.g, .slice A0 m k]
  have n12 : w.heap.size ≠ W1.heap.size := Nat.ne_of_lt h11.lt
  obtain ⟨W2, hW2⟩ : ∃ W2, W1.alloc (.cells #[.int .i64 c.u, .int .i64 c.g, .slice A0 m k] 30) = W2 := ⟨_, rfl⟩
  rw [hW2] at hb2 h12 h22
  have hb3 := al hb2 (.cells (ndC d (.slice B j cj) (.slice B' j' cj')) 65)
  have h13 := h12.alloc (.cells (ndC d (.slice B j cj) (.slice B' j' cj')) 65)
  have h23 := h22.alloc (.cells (ndC d (.slice B j cj) (.slice B' j' cj')) 65)
  have h33 := Blk.new W2 65 (ndC d (.slice B j cj) (.slice B' j' cj'))
  have n13 : w.heap.size ≠ W2.heap.size := Nat.ne_of_lt h12.lt
  obtain ⟨W3, hW3⟩ : ∃ W3, W2.alloc (.cells (ndC d (.slice B j cj) (.slice B' j' cj')) 65) = W3 := ⟨_, rfl⟩
  rw [hW3] at hb3 h13 h23 h33
  have hb4 := al hb3 (.cells ndZ 65)
  have h14 := h13.alloc (.cells ndZ 65)
  have h24 := h23.alloc (.cells ndZ 65)
  have h34 := h33.alloc (.cells ndZ 65)
  have h44 := Blk.new W3 65 ndZ
  have n14 : w.heap.size ≠ W3.heap.size := Nat.ne_of_lt h13.lt
  have l4 : w.heap.size ≤ W3.heap.size := hb3.size
  obtain ⟨W4, hW4⟩ : ∃ W4, W3.alloc (.cells ndZ 65) = W4 := ⟨_, rfl⟩
  rw [hW4] at hb4 h14 h24 h34 h44
  obtain ⟨z2, hz2⟩ : ∃ z, W1.heap.size = z := ⟨_, rfl⟩
  obtain ⟨z3, hz3⟩ : ∃ z, W2.heap.size = z := ⟨_, rfl⟩
  obtain ⟨z4, hz4⟩ : ∃ z, W3.heap.size = z := ⟨_, rfl⟩
  rw [hz2] at h24 n12
  rw [hz3] at h34 n13
  rw [hz4] at h44 n14 l4
  have HB := Lib.hid hb4
  have H1 := Lib.hid h14
  have H3 := Lib.hid h34
  have H4 := Lib.hid h44
  have HL4 := Lib.hid l4
  have HN3 := Lib.hid n13
  have HN4 := Lib.hid n14
  have p0 := h24.c3.1
  have p1 := h24.c3.2.1
  have u0 : (W4.setCell ⟨w.heap.size, 3, none⟩ (.int .i64 c.g)).cell? ⟨z2, 0, none⟩ = some (.int .i64 c.u) := cell_oth p0 (oth_ne (.inl n12))
  have u1 : (W4.setCell ⟨w.heap.size, 2, none⟩ (.int .i64 c.u)).cell? ⟨z2, 1, none⟩ = some (.int .i64 c.g) := cell_oth p1 (oth_ne (.inl n12))
  obtain ⟨f0, f1, f2, f3, f4, f5, f6⟩ := h14.f7
  obtain ⟨r0, r1, r2, r3, r4, r5, r6⟩ := h14.c7
  have v1 : (W4.setCell ⟨w.heap.size, 3, none⟩ (.int .i64 c.g)).cell? ⟨w.heap.size, 2, none⟩ = some (.int .i64 n.uid) := cell_oth r2 (oth_ne (.inr (by decide)))
  have v2 : (W4.setCell ⟨w.heap.size, 2, none⟩ (.int .i64 c.u)).cell? ⟨w.heap.size, 3, none⟩ = some (.int .i64 n.gid) := cell_oth r3 (oth_ne (.inr (by decide)))
  clear hb1 hb2 hb3 hb4 h11 h12 h13 h14 h22 h23 h24 h33 h34 h44 n12 n13 n14 l4 hd
  unfold ownd nodeV
  unfold ndC at *
  cases hs : sgB d with
  | false =>
    have y : (bits .and .i64 d.mode 1024 != 0) = false := by rw [HSG.out]; exact hs
    go_enter Tryz.func175, Tryz.ntmps175
    go_upto_region 1 with fail
    clear hW1 hW2 hW3 hW4 hz2 hz3 hz4
    go_region_law (fail)
    all_goals (
      have h1 := two_law H1.out c.u c.g
      have hg : W4.grownBy ((W4.setCell ⟨w.heap.size, 2, none⟩ (.int .i64 c.u)).setCell ⟨w.heap.size, 3, none⟩ (.int .i64 c.g)).drew (some w.heap.size) := grown_trans (two_grown W4 w.heap.size (.int .i64 c.u) (.int .i64 c.g)) (grown_below (Below.refl _ _).drew _)
      have h3 := H3.out.kept hg (some_ne HN3.out.symm)
      have h4 := H4.out.kept hg (some_ne HN4.out.symm)
      have hb := below_grown HB.out hg (Nat.le_refl _)
      clear f0 f1 f2 f3 f4 f5 f6 r0 r1 r2 r3 r4 r5 r6 u0 u1 v1 v2 p0 p1 hg H1 H3 H4 HB
      generalize ((W4.setCell ⟨w.heap.size, 2, none⟩ (.int .i64 c.u)).setCell ⟨w.heap.size, 3, none⟩ (.int .i64 c.g)).drew = W5 at h1 h3 h4 hb ⊢
      have H1 := Lib.hid h1
      have H4 := Lib.hid h4
      have HB := Lib.hid hb
      have q1 := h3.c7.2.1
      have q3 := h3.c7.2.2.2.1
      clear h1 h3 h4 hb
      have h1 := H1.out
      have h4 := H4.out
      obtain ⟨a0, a1, a2, a3, a4, a5, a6⟩ := h1.c7
      obtain ⟨f0, f1, f2, f3, f4, f5, f6⟩ := h4.f7
      obtain ⟨r0, r1, r2, r3, r4, r5, r6⟩ := h4.c7
      obtain ⟨s0, s1, s2, s3, s4, s5, s6⟩ := h4.s7
      have HE := Lib.hid (below_grown HB.out (grown7 W5 z4 (.int .i64 n.kind) (.int .i64 n.mode) (.int .i64 c.u) (.int .i64 c.g) (.slice A i ci) (.slice A' i' ci') (.string (bA n.target))) HL4.out)
      clear h1 h4
      go_wp2
      exact bodyPost_ret (v := .agg #[.int .i64 n.kind, .int .i64 n.mode, .int .i64 c.u, .int .i64 c.g, .slice A i ci, .slice A' i' ci', .string (bA n.target)]) (by simp [results, Tryz.results175, go_sem, s0, s1, s2, s3, s4, s5, s6]) rfl ⟨rfl, HE.out⟩)
  | true =>
    have y : (bits .and .i64 d.mode 1024 != 0) = true := by rw [HSG.out]; exact hs
    go_enter Tryz.func175, Tryz.ntmps175
    go_upto_region 1 with fail
    clear hW1 hW2 hW3 hW4 hz2 hz3 hz4
    go_region_law (fail)
    all_goals (
      have h1 := two_law H1.out c.u c.g
      have hg : W4.grownBy ((W4.setCell ⟨w.heap.size, 2, none⟩ (.int .i64 c.u)).setCell ⟨w.heap.size, 3, none⟩ (.int .i64 c.g)).drew (some w.heap.size) := grown_trans (two_grown W4 w.heap.size (.int .i64 c.u) (.int .i64 c.g)) (grown_below (Below.refl _ _).drew _)
      have h3 := H3.out.kept hg (some_ne HN3.out.symm)
      have h4 := H4.out.kept hg (some_ne HN4.out.symm)
      have hb := below_grown HB.out hg (Nat.le_refl _)
      clear f0 f1 f2 f3 f4 f5 f6 r0 r1 r2 r3 r4 r5 r6 u0 u1 v1 v2 p0 p1 hg H1 H3 H4 HB
      generalize ((W4.setCell ⟨w.heap.size, 2, none⟩ (.int .i64 c.u)).setCell ⟨w.heap.size, 3, none⟩ (.int .i64 c.g)).drew = W5 at h1 h3 h4 hb ⊢
      have H1 := Lib.hid h1
      have H4 := Lib.hid h4
      have HB := Lib.hid hb
      have q1 := h3.c7.2.1
      have q3 := h3.c7.2.2.2.1
      clear h1 h3 h4 hb
      have h1 := H1.out
      obtain ⟨a0, a1, a2, a3, a4, a5, a6⟩ := h1.c7
      obtain ⟨f0, f1, f2, f3, f4, f5, f6⟩ := h1.f7
      clear h1
      go_upto_region 4 with fail
      clear a0 a1 a2 a3 a4 a5 a6 f0 f1 f2 f3 f4 f5 f6
      have hg := grown_setCell W5 ⟨w.heap.size, 3, none⟩ (.int .i64 d.gid)
      have h1 : Blk (W5.setCell ⟨w.heap.size, 3, none⟩ (.int .i64 d.gid)) w.heap.size 65 #[.int .i64 n.kind, .int .i64 n.mode, .int .i64 c.u, .int .i64 d.gid, .slice A i ci, .slice A' i' ci', .string (bA n.target)] := H1.out.set_ 3 _
      have h4 := H4.out.kept hg (some_ne HN4.out.symm)
      have hb := below_grown HB.out hg (Nat.le_refl _)
      generalize W5.setCell ⟨w.heap.size, 3, none⟩ (.int .i64 d.gid) = W6 at h1 h4 hb ⊢
      obtain ⟨a0, a1, a2, a3, a4, a5, a6⟩ := h1.c7
      obtain ⟨f0, f1, f2, f3, f4, f5, f6⟩ := h4.f7
      obtain ⟨r0, r1, r2, r3, r4, r5, r6⟩ := h4.c7
      obtain ⟨s0, s1, s2, s3, s4, s5, s6⟩ := h4.s7
      have HE := Lib.hid (below_grown hb (grown7 W6 z4 (.int .i64 n.kind) (.int .i64 n.mode) (.int .i64 c.u) (.int .i64 d.gid) (.slice A i ci) (.slice A' i' ci') (.string (bA n.target))) HL4.out)
      clear h1 h4 hb hg q1 q3
      go_wp2
      exact bodyPost_ret (v := .agg #[.int .i64 n.kind, .int .i64 n.mode, .int .i64 c.u, .int .i64 d.gid, .slice A i ci, .slice A' i' ci', .string (bA n.target)]) (by simp [results, Tryz.results175, go_sem, s0, s1, s2, s3, s4, s5, s6]) rfl ⟨rfl, HE.out⟩)
end Go.Proofs.YtnkjaocmfhjnoaaGreat
namespace Go.Proofs.YtnkjaocmfhjnoaaGreat
open Go Go.RowKit
set_option maxRecDepth 100000

attribute [local go_sem] cell_off4 cell_blk4
def ClT (w : World) (Fn : FuncId) (caps : Array Value) (kd md : Int) (tg : Nm) : Prop := ∀ (n : Nd) (A A' : Option Addr) (i c i' c' : Nat) (W : World), Below w.heap.size w W → 0 ≤ n.mode → Calls Tryz.prog Fn (#[nodeV n (.slice A i c) (.slice A' i' c')] ++ caps) W fun e w' => e = .returned (nodeV ⟨kd, if sgB n = true ∧ kd = 2 then md + 1024 else md, 0, 0, [], [], tg⟩ (.slice none 0 0) (.slice none 0 0)) ∧ Below W.heap.size W w'
set_option maxHeartbeats 8000000 in
theorem plant_pre (v : Value) (t : List Nd) (c : Wh) (A0 : Option Addr) (m k : Nat) (p : Nm) (f : Bool) (Fn : FuncId) (caps : Array Value) (w : World) (h : TabP w v t) (hc : CrR w c A0 m k) (X : Int) (hz : (resM t c p f).2 = X) (hX : X ≠ 0) :
    Calls Tryz.prog 135 #[v, .agg #[.int .i64 c.u, .int .i64 c.g, .slice A0 m k], .string (bA p), .bool f, .func (.func Fn) #[] caps] w fun e w' => e = .returned (.tuple #[.int .i64 0, .int .i64 X]) ∧ Below w.heap.size w w' := by
  have hb1 := ba w (.cells #[.int .i64 c.u, .int .i64 c.g, .slice A0 m k] 30)
  have hk1 := Blk.new w 30 #[.int .i64 c.u, .int .i64 c.g, .slice A0 m k]
  obtain ⟨W1, hW1⟩ : ∃ W1, w.alloc (.cells #[.int .i64 c.u, .int .i64 c.g, .slice A0 m k] 30) = W1 := ⟨_, rfl⟩
  rw [hW1] at hb1 hk1
  obtain ⟨RE, hRE⟩ : ∃ RE, resM t c p f = RE := ⟨_, rfl⟩
  obtain ⟨F, e0⟩ := RE
  have HRS := Lib.hid (resolve_any v t c A0 m k p f W1 (h.below hb1) (hc.below hb1) (F, e0) hRE)
  rw [hRE] at hz
  have hz' : e0 = X := hz
  subst hz'
  have HB1 := Lib.hid hb1
  have q : (e0 != 0) = true := by simpa using hX
  clear h hc hz hRE hb1 hX
  obtain ⟨k0, k1, k2⟩ := hk1.c3
  clear hk1
  go_enter Tryz.func135, Tryz.ntmps135
  go_wp2_with fail
  clear hW1
  refine HRS.out.mono ?_
  rintro e w3 ⟨rfl, hb3⟩
  have hbx := al hb3 (.cells #[.int .i64 F.dir, .string (bA F.name), .int .i64 F.node] 197)
  have HB4 := Lib.hid (bt hbx HB1.out)
  clear hb3 hbx k0 k1 k2 HRS
  go_wp2
  go_ret2
  exact ⟨rfl, HB4.out⟩
def AdT (w W : World) (g : Nat) (T : List Nd) (P : Nat → Prop) : Prop := TabR W g T P ∧ ∃ V, Below w.heap.size w V ∧ V.grownBy W (some g)
theorem ents_none (w : World) : EntsR w (.slice none 0 0) [] := ⟨none, 0, rfl, fun k s h => by simp at h⟩
set_option maxHeartbeats 32000000 in
theorem plant_go (g : Nat) (t : List Nd) (P : Nat → Prop) (c : Wh) (A0 : Option Addr) (m k : Nat) (p : Nm) (f : Bool) (Fn : FuncId) (caps : Array Value) (kd md : Int) (tg : Nm) (w : World) (h : TabR w g t P) (ht : okT t) (hc : CrR w c A0 m k) (hkd : 1 ≤ kd ∧ kd ≤ 3) (htl : tg.length ≤ 1000) (hP : ∀ b, w.heap.size ≤ b → P b) (hT : ClT w Fn caps kd md tg) (hcf : ∀ (args : Array Value) (W : World), (callFunc Fn args).run Tryz.prog W = .ok (.enter Fn args) W) (F : Fo) (hF : resM t c p f = (F, 0)) :
    Calls Tryz.prog 135 #[.pointer (some ⟨g, 0, none⟩), .agg #[.int .i64 c.u, .int .i64 c.g, .slice A0 m k], .string (bA p), .bool f, .func (.func Fn) #[] caps] w fun e w' => e = .returned (.tuple #[.int .i64 (plI t c (F, 0) kd md tg), .int .i64 (plE t c (F, 0) kd md tg)]) ∧ TabR w' g (plT t c (F, 0) kd md tg) P ∧ w.grownBy w' (some g) := by
  have hb1 := ba w (.cells #[.int .i64 c.u, .int .i64 c.g, .slice A0 m k] 30)
  have hk1 := Blk.new w 30 #[.int .i64 c.u, .int .i64 c.g, .slice A0 m k]
  obtain ⟨W1, hW1⟩ : ∃ W1, w.alloc (.cells #[.int .i64 c.u, .int .i64 c.g, .slice A0 m k] 30) = W1 := ⟨_, rfl⟩
  rw [hW1] at hb1 hk1
  have HRS := Lib.hid (resolve_any (.pointer (some ⟨g, 0, none⟩)) t c A0 m k p f W1 (h.below hb1).ptr (hc.below hb1) (F, 0) hF)
  have hk4 : kd ≠ 4 := by omega
  have hpe : plE t c (F, 0) kd md tg ≠ 0 → plT t c (F, 0) kd md tg = t ∧ plI t c (F, 0) kd md tg = 0 := pl_err
  have hFN : F.node = 0 → (tget t F.dir).kind = 2 ∧ nok F.name = true ∧ ¬ F.name ∈ nmE (tget t F.dir).ents := fun q => by
    have h1 := res_new ht (t := t) (c := c) (p := p) (f := f) (by rw [hF]) (by rw [hF]; exact q)
    rw [hF] at h1
    exact h1
  obtain ⟨N2, hN2⟩ : ∃ N2, (plR t c F kd md tg).nd = N2 := ⟨_, rfl⟩
  have A17 := Lib.hid (show F.node ≠ 0 → plE t c (F, 0) kd md tg = 17 ∧ plT t c (F, 0) kd md tg = t ∧ plI t c (F, 0) kd md tg = 0 from fun q => ⟨pl_w17 q, hpe (by rw [pl_w17 q]; decide)⟩)
  have A13 := Lib.hid (show F.node = 0 → canT t c F.dir 3 = false → plE t c (F, 0) kd md tg = 13 ∧ plT t c (F, 0) kd md tg = t ∧ plI t c (F, 0) kd md tg = 0 from fun q r => ⟨pl_w13 q r, hpe (by rw [pl_w13 q r]; decide)⟩)
  have A28 := Lib.hid (show F.node = 0 → canT t c F.dir 3 = true → (8 ≤ (tget t F.dir).ents.length ∨ usedT t = t.length) → plE t c (F, 0) kd md tg = 28 ∧ plT t c (F, 0) kd md tg = t ∧ plI t c (F, 0) kd md tg = 0 from fun q r s => ⟨pl_w28 q r s, hpe (by rw [pl_w28 q r s]; decide)⟩)
  have A22 := Lib.hid (show F.node = 0 → canT t c F.dir 3 = true → ¬ (8 ≤ (tget t F.dir).ents.length ∨ usedT t = t.length) → ¬ rightP N2 → plE t c (F, 0) kd md tg = 22 ∧ plT t c (F, 0) kd md tg = t ∧ plI t c (F, 0) kd md tg = 0 from fun q r s z => by
    have e : plE t c (F, 0) kd md tg = 22 := by rw [pl_wr q r s, hN2, toB_false z, if_pos rfl]
    exact ⟨e, hpe (by rw [e]; decide)⟩)
  have A0' := Lib.hid (show F.node = 0 → canT t c F.dir 3 = true → ¬ (8 ≤ (tget t F.dir).ents.length ∨ usedT t = t.length) → rightP N2 → (plE t c (F, 0) kd md tg = 0 ∧ plI t c (F, 0) kd md tg = freeT t 0 ∧ withE (tget t F.dir) F.name (freeT t 0) = 0) ∧ (addE t true = 0 ∧ addI t true = freeT t 0 ∧ actT t 1 0 N2 true = setT t (freeT t 0) N2) ∧ actT (setT t (freeT t 0) N2) 0 F.dir (withM (tget t F.dir) F.name (freeT t 0)) (toB (rightP (withM (tget t F.dir) F.name (freeT t 0)))) = plT t c (F, 0) kd md tg ∧ rightP (withM (tget t F.dir) F.name (freeT t 0)) from fun q r s z => by
    obtain ⟨e1, e2, e3, e4, e5⟩ := pl_w0 hk4 q r s (hFN q).1 (hFN q).2.1 (hFN q).2.2 (by rw [hN2]; exact z)
    rw [hN2] at e2
    have hti := kind_tis (hFN q).1
    have hrw := (right_with (tis_right ht hti) e4).1
    obtain ⟨g1, g2, -⟩ := free_is e5
    have hne : F.dir ≠ (freeT t 0 : Int) := fun q2 => by rw [q2, g2] at hti; cases hti
    have htd : tis (setT t (freeT t 0) N2) F.dir = true := by
      unfold tis
      rw [tget_set g1, if_neg hne]
      exact hti
    refine ⟨⟨e1, e3, e4⟩, ⟨?_, rfl, ?_⟩, ?_, hrw⟩
    · unfold addE
      rw [if_neg (by decide), if_neg e5]
    · unfold actT
      rw [if_neg (by decide), if_pos rfl, if_pos ⟨rfl, e5⟩]
    · unfold actT
      rw [if_pos rfl, if_pos ⟨htd, toB_true hrw⟩, e2])
  have HDM := Lib.hid (show F.node = 0 → 0 ≤ (tget t F.dir).mode from fun q => (tis_right ht (kind_tis (hFN q).1)).1.1.1)
  have HDF := Lib.hid (show F.node = 0 → Few (tget t F.dir) from fun q => right_few (tis_right ht (kind_tis (hFN q).1)))
  have HNL := Lib.hid (show F.node = 0 → F.name.length ≤ 1000 from fun q => by have h1 := (nok_nok (hFN q).2.1).len; omega)
  have HNF := Lib.hid (show Few N2 from by rw [← hN2]; exact ⟨Nat.zero_le _, Nat.zero_le _, fun e he => (by cases he), htl⟩)
  have HN2 := Lib.hid (show ownd ⟨kd, if sgB (tget t F.dir) = true ∧ kd = 2 then md + 1024 else md, 0, 0, [], [], tg⟩ c (tget t F.dir) = N2 ∧ N2.data = [] ∧ N2.ents = [] from by rw [← hN2]; exact ⟨rfl, rfl, rfl⟩)
  have HUS := Lib.hid (show ¬ ((usedT t : Int) ≥ (t.length : Int)) ↔ usedT t ≠ t.length from by have h1 := used_le t; omega)
  generalize plE t c (F, 0) kd md tg = CE at A17 A13 A28 A22 A0' ⊢
  generalize plT t c (F, 0) kd md tg = CT at A17 A13 A28 A22 A0' ⊢
  generalize plI t c (F, 0) kd md tg = CI at A17 A13 A28 A22 A0' ⊢
  have HC := Lib.hid hc
  have HT := Lib.hid h
  have HB1 := Lib.hid hb1
  have HK1 := Lib.hid hk1
  have HP := Lib.hid hP
  have HGW := Lib.hid (show w.heap.size ≠ g from Nat.ne_of_gt h.lt)
  have HCL := Lib.hid (fun (A A' : Option Addr) (i c i' c' : Nat) (W : World) (hb : Below w.heap.size w W) (q : F.node = 0) => show Calls Tryz.prog Fn (#[nodeV (tget t F.dir) (.slice A i c) (.slice A' i' c')] ++ caps) W fun e w' => e = .returned (nodeV ⟨kd, if sgB (tget t F.dir) = true ∧ kd = 2 then md + 1024 else md, 0, 0, [], [], tg⟩ (.slice none 0 0) (.slice none 0 0)) ∧ Below W.heap.size W w' from hT (tget t F.dir) A A' i c i' c' W hb (HDM.out q))
  clear h ht hc hb1 hP hT hpe hFN hN2 hF hk4 hkd htl
  obtain ⟨k0, k1, k2⟩ := hk1.c3
  clear hk1
  go_enter Tryz.func135, Tryz.ntmps135
  go_wp2_with fail
  clear hW1
  refine HRS.out.mono ?_
  rintro e w3 ⟨rfl, hb3⟩
  have hbx := al hb3 (.cells #[.int .i64 F.dir, .string (bA F.name), .int .i64 F.node] 197)
  have HB4 := Lib.hid (bt hbx HB1.out)
  have hf4 := Blk.new w3 197 #[.int .i64 F.dir, .string (bA F.name), .int .i64 F.node]
  obtain ⟨y, hy⟩ : ∃ y, w3.heap.size = y := ⟨_, rfl⟩
  obtain ⟨W4, hW4⟩ : ∃ W4, w3.alloc (.cells #[.int .i64 F.dir, .string (bA F.name), .int .i64 F.node] 197) = W4 := ⟨_, rfl⟩
  have hgy : g < w3.heap.size := Nat.lt_of_lt_of_le HT.out.lt (bt hb3 HB1.out).size
  rw [hW4] at HB4 hf4 hbx
  rw [hy] at hf4 hgy
  have HGY := Lib.hid (show y ≠ g from Nat.ne_of_gt hgy)
  have HF4 := Lib.hid hf4
  have HT4 := Lib.hid (HT.out.below HB4.out)
  have hk4 := HK1.out.below hbx
  have HK4 := Lib.hid hk4
  clear hb3 hbx k0 k1 k2 HRS hf4 hgy HK1
  obtain ⟨k0, k1, k2⟩ := hk4.c3
  clear hk4
  obtain ⟨b0, b1, b2⟩ := HF4.out.c3
  have HG := Lib.hid (get_any (.pointer (some ⟨g, 0, none⟩)) t F.dir W4 HT4.out.ptr)
  generalize tis t F.dir = dd at HG
  obtain ⟨d, hd⟩ : ∃ d, tget t F.dir = d := ⟨_, rfl⟩
  rw [hd] at HG A28 A22 A0' HDM HDF HN2 HCL
  clear hd
  go_wp2_with fail
  clear hW4 hy
  refine HG.out.mono ?_
  rintro e w5 ⟨vd, ve, rfl, hd, he, -, -, hb5⟩
  obtain ⟨A1, c1, hv1⟩ := bytesT_form hd
  obtain ⟨A2, c2, hv2⟩ := entsT_form he
  subst hv1 hv2
  have hbx := al hb5 (.cells #[.int .i64 d.kind, .int .i64 d.mode, .int .i64 d.uid, .int .i64 d.gid, .slice A1 d.data.length c1, .slice A2 d.ents.length c2, .string (bA d.target)] 65)
  have hkn := Blk.new w5 65 #[.int .i64 d.kind, .int .i64 d.mode, .int .i64 d.uid, .int .i64 d.gid, .slice A1 d.data.length c1, .slice A2 d.ents.length c2, .string (bA d.target)]
  have hd6 := hd.below (ba w5 (.cells #[.int .i64 d.kind, .int .i64 d.mode, .int .i64 d.uid, .int .i64 d.gid, .slice A1 d.data.length c1, .slice A2 d.ents.length c2, .string (bA d.target)] 65))
  have he6 := he.below (ba w5 (.cells #[.int .i64 d.kind, .int .i64 d.mode, .int .i64 d.uid, .int .i64 d.gid, .slice A1 d.data.length c1, .slice A2 d.ents.length c2, .string (bA d.target)] 65))
  have hgz : g < w5.heap.size := Nat.lt_of_lt_of_le HT.out.lt (bt hb5 HB4.out).size
  obtain ⟨z, hz⟩ : ∃ z, w5.heap.size = z := ⟨_, rfl⟩
  obtain ⟨W6, hW6⟩ : ∃ W6, w5.alloc (.cells #[.int .i64 d.kind, .int .i64 d.mode, .int .i64 d.uid, .int .i64 d.gid, .slice A1 d.data.length c1, .slice A2 d.ents.length c2, .string (bA d.target)] 65) = W6 := ⟨_, rfl⟩
  rw [hW6] at hbx hkn hd6 he6
  rw [hz] at hkn hgz
  have HGZ := Lib.hid (show z ≠ g from Nat.ne_of_gt hgz)
  have HZ6 := Lib.hid hkn
  have HD6 := Lib.hid hd6
  have HE6 := Lib.hid he6
  have HB6 := Lib.hid (bt hbx HB4.out)
  have HT6 := Lib.hid (HT4.out.below hbx)
  have HF6 := Lib.hid (HF4.out.below hbx)
  have HK6 := Lib.hid (HK4.out.below hbx)
  clear hd he hb5 hbx hkn hd6 he6 hgz b0 b1 b2 k0 k1 k2 HG HT4 HF4 HK4 HB4 HB1
  obtain ⟨k0, k1, k2⟩ := HK6.out.c3
  obtain ⟨b0, b1, b2⟩ := HF6.out.c3
  obtain ⟨x0, x1, x2, x3, x4, x5, x6⟩ := HZ6.out.c7
  unfold nodeV
  by_cases qN : F.node = 0
  · have qN' : (F.node != 0) = false := by simpa using qN
    have HQN := Lib.hid qN
    clear qN A17
    have HSM := Lib.hid (show Calls Tryz.prog 137 #[.slice (some ⟨W6.heap.size, 0, none⟩) 2 2] (W6.alloc (.cells #[.int .i64 2, .int .i64 1] 3)).drew fun e w' => e = .returned (.int .i64 3) ∧ Below W6.heap.size W6 w' from by
      have h1 := sum_any _ 2 2 [2, 1] (W6.alloc (.cells #[.int .i64 2, .int .i64 1] 3)).drew (ints_two (Blk.below (Blk.new W6 3 #[.int .i64 2, .int .i64 1]) (Below.refl _ _).drew)) (by decide)
      rw [sum_wx] at h1
      refine h1.mono ?_
      rintro e w' ⟨rfl, rfl⟩
      exact ⟨rfl, (ba W6 _).drew⟩)
    have HCN := Lib.hid (fun (W : World) (hb : Below W6.heap.size W6 W) => rescan_any (.pointer (some ⟨g, 0, none⟩)) t c A0 m k F.dir 3 W (HT6.out.below hb).ptr (HC.out.below (bt hb HB6.out)))
    have HPR := Lib.hid (fun (W : World) (hb : Below W6.heap.size W6 W) => show W.cell? ⟨w.heap.size, 0, none⟩ = some (.int .i64 c.u) ∧ W.cell? ⟨w.heap.size, 1, none⟩ = some (.int .i64 c.g) ∧ W.cell? ⟨w.heap.size, 2, none⟩ = some (.slice A0 m k) ∧ W.cell? ⟨y, 0, none⟩ = some (.int .i64 F.dir) from ⟨(HK6.out.below hb).c3.1, (HK6.out.below hb).c3.2.1, (HK6.out.below hb).c3.2.2, (HF6.out.below hb).c3.1⟩)
    have HJ := Lib.hid (show Below W6.heap.size W6 W6.drew from (Below.refl _ _).drew)
    have HJA := Lib.hid (show Below W6.heap.size W6 (W6.alloc (.cells #[.int .i64 2, .int .i64 1] 3)).drew from (ba W6 _).drew)
    obtain ⟨cn, hcn⟩ : ∃ cn, canT t c F.dir 3 = cn := ⟨_, rfl⟩
    rw [hcn] at HCN A13 A28 A22 A0'
    clear hcn
    go_upto_region 7 with fail
    clear hW6 hz
    go_cut [41] (fun s41 wx => s41 = .bool (!cn) ∧ Below W6.heap.size W6 wx)
    case first =>
      go_region_held3 (fun W => W.cell? ⟨w.heap.size, 0, none⟩ = some (.int .i64 c.u) ∧ W.cell? ⟨w.heap.size, 1, none⟩ = some (.int .i64 c.g) ∧ W.cell? ⟨w.heap.size, 2, none⟩ = some (.slice A0 m k) ∧ W.cell? ⟨y, 0, none⟩ = some (.int .i64 F.dir))
        (first | (with_reducible exact HPR.out _ HJ.out) | (with_reducible exact HPR.out _ HJA.out) | (with_reducible exact HPR.out _ HJ1.out) | (with_reducible exact HPR.out _ HJ2.out))
        (first
        | (go_at_call 137; (with_reducible refine HSM.out.mono ?_); rintro e1 w7 ⟨rfl, hb7⟩; have HJ1 := Lib.hid hb7; clear hb7)
        | (go_at_call 125; (with_reducible refine (HCN.out _ HJ1.out).mono ?_); rintro e1 w8 ⟨rfl, hb8⟩; have HJ2 := Lib.hid (bt hb8 HJ1.out); clear hb8))
      all_goals (
        go_wp2
        go_meet
        exact ⟨rfl, HJ2.out⟩)
    case rest =>
    obtain ⟨rfl, hb7⟩ := hcut
    obtain ⟨w7, hw7⟩ : ∃ W, wc = W := ⟨_, rfl⟩
    rw [hw7] at hb7 ⊢
    have HT7 := Lib.hid (HT6.out.below hb7)
    have HF7 := Lib.hid (HF6.out.below hb7)
    have HK7 := Lib.hid (HK6.out.below hb7)
    have HZ7 := Lib.hid (HZ6.out.below hb7)
    have HD7 := Lib.hid (HD6.out.below hb7)
    have HE7 := Lib.hid (HE6.out.below hb7)
    have HB7 := Lib.hid (bt hb7 HB6.out)
    clear hb7 hw7 k0 k1 k2 b0 b1 b2 x0 x1 x2 x3 x4 x5 x6 HT6 HF6 HK6 HZ6 HD6 HE6 HB6 HSM HCN HPR HJ
    obtain ⟨k0, k1, k2⟩ := HK7.out.c3
    obtain ⟨b0, b1, b2⟩ := HF7.out.c3
    obtain ⟨x0, x1, x2, x3, x4, x5, x6⟩ := HZ7.out.c7
    cases cn with
    | false =>
      obtain ⟨e1, e2, e3⟩ := A13.out HQN.out rfl
      have HX := Lib.hid (And.intro e1 (And.intro e2 e3))
      clear e1 e2 e3 A13 A28 A22 A0'
      go_wp2
      go_ret2
      obtain ⟨e1, e2, e3⟩ := HX.out
      exact ⟨by rw [e1, e3]; rfl, by rw [e2]; exact HT7.out, grown_below HB7.out _⟩
    | true =>
      clear A13
      have HU := Lib.hid (fun (W : World) (hb : Below w7.heap.size w7 W) => used_any (.pointer (some ⟨g, 0, none⟩)) t W (HT7.out.below hb).ptr)
      have HR := Lib.hid (fun (W : World) (hb : Below w7.heap.size w7 W) => room_any (.pointer (some ⟨g, 0, none⟩)) t W (HT7.out.below hb).ptr)
      obtain ⟨us, hus⟩ : ∃ us, usedT t = us := ⟨_, rfl⟩
      obtain ⟨le, hle⟩ : ∃ le, t.length = le := ⟨_, rfl⟩
      rw [hus] at HU A28 A22 A0' HUS
      rw [hle] at HR A28 A22 A0' HUS
      clear hus hle
      go_upto_region 9 with fail
      go_cut [50] (fun s50 wx => s50 = .bool (decide (8 ≤ d.ents.length ∨ us = le)) ∧ Below w7.heap.size w7 wx)
      case first =>
        by_cases q8 : 8 ≤ d.ents.length
        · have y8 : (d.ents.length : Int) ≥ 8 := by omega
          have HQ := Lib.hid (show decide (8 ≤ d.ents.length ∨ us = le) = true from decide_eq_true (.inl q8))
          have HJ := Lib.hid (Below.refl w7.heap.size w7)
          clear q8
          go_wp2
          go_meet
          exact ⟨by rw [HQ.out], HJ.out⟩
        · have y8 : ¬ (d.ents.length : Int) ≥ 8 := by omega
          have HJ := Lib.hid (Below.refl w7.heap.size w7)
          have HQ8 := Lib.hid q8
          clear q8
          go_wp2_with fail
          refine (HU.out w7 HJ.out).mono ?_
          rintro e w8 ⟨rfl, hb8⟩
          have HB8 := Lib.hid hb8
          clear hb8
          go_wp2_with fail
          refine (HR.out w8 HB8.out).mono ?_
          rintro e w9 ⟨rfl, rfl⟩
          by_cases qu : us = le
          · have yu : le ≤ us := by omega
            have HYU := Lib.hid yu
            have HQ := Lib.hid (show decide (8 ≤ d.ents.length ∨ us = le) = true from decide_eq_true (.inr qu))
            clear qu
            go_wp2
            go_meet
            exact ⟨by rw [HQ.out], HB8.out⟩
          · have yu : ¬ le ≤ us := by have := HUS.out.2 qu; omega
            have HYU := Lib.hid yu
            have HQ := Lib.hid (show decide (8 ≤ d.ents.length ∨ us = le) = false from decide_eq_false (fun q => q.elim HQ8.out qu))
            clear qu
            go_wp2
            go_meet
            exact ⟨by rw [HQ.out], HB8.out⟩
      case rest =>
      obtain ⟨rfl, hb8⟩ := hcut
      obtain ⟨w8, hw8⟩ : ∃ W, wc = W := ⟨_, rfl⟩
      rw [hw8] at hb8 ⊢
      have HT8 := Lib.hid (HT7.out.below hb8)
      have HF8 := Lib.hid (HF7.out.below hb8)
      have HK8 := Lib.hid (HK7.out.below hb8)
      have HZ8 := Lib.hid (HZ7.out.below hb8)
      have HD8 := Lib.hid (HD7.out.below hb8)
      have HE8 := Lib.hid (HE7.out.below hb8)
      have HB8 := Lib.hid (bt hb8 HB7.out)
      clear hb8 hw8 k0 k1 k2 b0 b1 b2 x0 x1 x2 x3 x4 x5 x6 HT7 HF7 HK7 HZ7 HD7 HE7 HB7 HU HR HUS
      by_cases q28 : 8 ≤ d.ents.length ∨ us = le
      · obtain ⟨e1, e2, e3⟩ := A28.out HQN.out rfl q28
        have HX := Lib.hid (And.intro e1 (And.intro e2 e3))
        have y28 : decide (8 ≤ d.ents.length ∨ us = le) = true := decide_eq_true q28
        rw [y28]
        clear e1 e2 e3 A28 A22 A0' q28 y28
        go_wp2
        go_ret2
        obtain ⟨e1, e2, e3⟩ := HX.out
        exact ⟨by rw [e1, e3]; rfl, by rw [e2]; exact HT8.out, grown_below HB8.out _⟩
      · have y28 : decide (8 ≤ d.ents.length ∨ us = le) = false := decide_eq_false q28
        rw [y28]
        have HQ28 := Lib.hid q28
        clear y28 q28 A28
        have HN2D := Lib.hid HN2.out.2
        obtain ⟨MM, hMM⟩ : ∃ MM, (if sgB d = true ∧ kd = 2 then md + 1024 else md) = MM := ⟨_, rfl⟩
        have hn21 := HN2.out.1
        rw [hMM] at HCL hn21
        clear HN2
        have HTL := Lib.hid (fun (W : World) (hb : Below w8.heap.size w8 W) => show Calls Tryz.prog Fn (#[.agg #[.int .i64 d.kind, .int .i64 d.mode, .int .i64 d.uid, .int .i64 d.gid, .slice A1 d.data.length c1, .slice A2 d.ents.length c2, .string (bA d.target)]] ++ caps) W fun e w' => e = .returned (.agg #[.int .i64 kd, .int .i64 MM, .int .i64 0, .int .i64 0, .slice none 0 0, .slice none 0 0, .string (bA tg)]) ∧ Below W.heap.size W w' from HCL.out A1 A2 d.data.length c1 d.ents.length c2 W (bt hb HB8.out) HQN.out)
        have HOW := Lib.hid (fun (W : World) => show Calls Tryz.prog 175 #[.agg #[.int .i64 kd, .int .i64 MM, .int .i64 0, .int .i64 0, .slice none 0 0, .slice none 0 0, .string (bA tg)], .agg #[.int .i64 c.u, .int .i64 c.g, .slice A0 m k], .agg #[.int .i64 d.kind, .int .i64 d.mode, .int .i64 d.uid, .int .i64 d.gid, .slice A1 d.data.length c1, .slice A2 d.ents.length c2, .string (bA d.target)]] W fun e w' => e = .returned (.agg #[.int .i64 N2.kind, .int .i64 N2.mode, .int .i64 N2.uid, .int .i64 N2.gid, .slice none 0 0, .slice none 0 0, .string (bA N2.target)]) ∧ Below W.heap.size W w' from by
          have h1 := owned_any ⟨kd, MM, 0, 0, [], [], tg⟩ c A0 m k d (HDM.out HQN.out) none none A1 A2 0 0 0 0 d.data.length c1 d.ents.length c2 W
          rw [hn21] at h1
          exact h1)
        obtain ⟨AI, hAI⟩ : ∃ AI, addI t (toB (rightP N2)) = AI := ⟨_, rfl⟩
        obtain ⟨AE, hAE⟩ : ∃ AE, addE t (toB (rightP N2)) = AE := ⟨_, rfl⟩
        obtain ⟨TA, hTA⟩ : ∃ TA, actT t 1 0 N2 (toB (rightP N2)) = TA := ⟨_, rfl⟩
        have HAD := Lib.hid (fun (W : World) (hb : Below w8.heap.size w8 W) => show Calls Tryz.prog 24 #[.pointer (some ⟨g, 0, none⟩), .agg #[.int .i64 N2.kind, .int .i64 N2.mode, .int .i64 N2.uid, .int .i64 N2.gid, .slice none 0 0, .slice none 0 0, .string (bA N2.target)]] W fun e w' => e = .returned (.tuple #[.int .i64 AI, .int .i64 AE]) ∧ AdT w8 w' g TA P from by
          have h1 := add_any g t P N2 (.slice none 0 0) (.slice none 0 0) W (HT8.out.below hb) (by rw [HN2D.out.1]; exact BytesR.nil _) (by rw [HN2D.out.2]; exact ents_none _) HNF.out (fun b r => HP.out b (Nat.le_trans (bt hb HB8.out).size r)) 0
          rw [hAI, hAE, hTA] at h1
          refine h1.mono ?_
          rintro e w' ⟨rfl, h2, h3⟩
          exact ⟨rfl, h2, W, hb, h3⟩)
        have HPR := Lib.hid (fun (W : World) (hb : Below w8.heap.size w8 W) => show W.cell? ⟨z, 0, none⟩ = some (.int .i64 d.kind) ∧ W.cell? ⟨z, 1, none⟩ = some (.int .i64 d.mode) ∧ W.cell? ⟨z, 2, none⟩ = some (.int .i64 d.uid) ∧ W.cell? ⟨z, 3, none⟩ = some (.int .i64 d.gid) ∧ W.cell? ⟨z, 4, none⟩ = some (.slice A1 d.data.length c1) ∧ W.cell? ⟨z, 5, none⟩ = some (.slice A2 d.ents.length c2) ∧ W.cell? ⟨z, 6, none⟩ = some (.string (bA d.target)) ∧ W.cell? ⟨w.heap.size, 0, none⟩ = some (.int .i64 c.u) ∧ W.cell? ⟨w.heap.size, 1, none⟩ = some (.int .i64 c.g) ∧ W.cell? ⟨w.heap.size, 2, none⟩ = some (.slice A0 m k) from ⟨(HZ8.out.below hb).c7.1, (HZ8.out.below hb).c7.2.1, (HZ8.out.below hb).c7.2.2.1, (HZ8.out.below hb).c7.2.2.2.1, (HZ8.out.below hb).c7.2.2.2.2.1, (HZ8.out.below hb).c7.2.2.2.2.2.1, (HZ8.out.below hb).c7.2.2.2.2.2.2, (HK8.out.below hb).c3.1, (HK8.out.below hb).c3.2.1, (HK8.out.below hb).c3.2.2⟩)
        have HPS := Lib.hid (fun (W : World) (ha : AdT w8 W g TA P) => show W.cell? ⟨z, 0, none⟩ = some (.int .i64 d.kind) ∧ W.cell? ⟨z, 1, none⟩ = some (.int .i64 d.mode) ∧ W.cell? ⟨z, 2, none⟩ = some (.int .i64 d.uid) ∧ W.cell? ⟨z, 3, none⟩ = some (.int .i64 d.gid) ∧ W.cell? ⟨z, 4, none⟩ = some (.slice A1 d.data.length c1) ∧ W.cell? ⟨z, 5, none⟩ = some (.slice A2 d.ents.length c2) ∧ W.cell? ⟨z, 6, none⟩ = some (.string (bA d.target)) ∧ W.cell? ⟨w.heap.size, 0, none⟩ = some (.int .i64 c.u) ∧ W.cell? ⟨w.heap.size, 1, none⟩ = some (.int .i64 c.g) ∧ W.cell? ⟨w.heap.size, 2, none⟩ = some (.slice A0 m k) from by
          obtain ⟨-, V, hb, hg⟩ := ha
          have hz := (HZ8.out.below hb).kept hg (some_ne HGZ.out)
          have hk := (HK8.out.below hb).kept hg (some_ne HGW.out)
          exact ⟨hz.c7.1, hz.c7.2.1, hz.c7.2.2.1, hz.c7.2.2.2.1, hz.c7.2.2.2.2.1, hz.c7.2.2.2.2.2.1, hz.c7.2.2.2.2.2.2, hk.c3.1, hk.c3.2.1, hk.c3.2.2⟩)
        have HJ := Lib.hid (show Below w8.heap.size w8 w8.drew from (Below.refl _ _).drew)
        have HAIE := Lib.hid (And.intro hAI (And.intro hAE hTA))
        clear hAI hAE hTA hn21 hMM HCL
        go_upto_region 11 with fail
        go_cut [16, 13] (fun s16 s13 wx => s16 = .int .i64 AI ∧ s13 = .int .i64 AE ∧ AdT w8 wx g TA P)
        case first =>
          go_region_held3 (fun W => W.cell? ⟨z, 0, none⟩ = some (.int .i64 d.kind) ∧ W.cell? ⟨z, 1, none⟩ = some (.int .i64 d.mode) ∧ W.cell? ⟨z, 2, none⟩ = some (.int .i64 d.uid) ∧ W.cell? ⟨z, 3, none⟩ = some (.int .i64 d.gid) ∧ W.cell? ⟨z, 4, none⟩ = some (.slice A1 d.data.length c1) ∧ W.cell? ⟨z, 5, none⟩ = some (.slice A2 d.ents.length c2) ∧ W.cell? ⟨z, 6, none⟩ = some (.string (bA d.target)) ∧ W.cell? ⟨w.heap.size, 0, none⟩ = some (.int .i64 c.u) ∧ W.cell? ⟨w.heap.size, 1, none⟩ = some (.int .i64 c.g) ∧ W.cell? ⟨w.heap.size, 2, none⟩ = some (.slice A0 m k))
            (first | (with_reducible exact HPR.out _ HJ.out) | (with_reducible exact HPR.out _ HJ1.out) | (with_reducible exact HPR.out _ HJ2.out) | (with_reducible exact HPS.out _ HJ3.out))
            (first
            | (go_at_call 175; (with_reducible refine (HOW.out _).mono ?_); rintro e2 w10 ⟨rfl, hb10⟩; have HJ2 := Lib.hid (bt hb10 HJ1.out); clear hb10)
            | (go_at_call 24; (with_reducible refine (HAD.out _ HJ2.out).mono ?_); rintro e3 w11 ⟨rfl, ha⟩; have HJ3 := Lib.hid ha; clear ha)
            | (refine (HTL.out _ HJ.out).mono ?_; rintro e1 w9 ⟨rfl, hb9⟩; have HJ1 := Lib.hid (bt hb9 HJ.out); clear hb9))
          all_goals (
            go_wp2
            go_meet
            exact ⟨rfl, rfl, HJ3.out⟩)
        case rest =>
        obtain ⟨rfl, rfl, hta, V, hvb, hvg⟩ := hcut
        obtain ⟨w11, hw11⟩ : ∃ W, wc = W := ⟨_, rfl⟩
        rw [hw11] at hta hvg ⊢
        obtain ⟨tcs, htc, -⟩ := (HT8.out.below hvb).blk
        have HTA := Lib.hid hta
        have HGR := Lib.hid (grown_trans (grown_below (bt hvb HB8.out) (some g)) hvg)
        have HZB := Lib.hid ((HZ8.out.below hvb).kept hvg (some_ne HGZ.out))
        have HKB := Lib.hid ((HK8.out.below hvb).kept hvg (some_ne HGW.out))
        have HFB := Lib.hid ((HF8.out.below hvb).kept hvg (some_ne HGY.out))
        have HDB := Lib.hid (show BytesT w11 (.slice A1 d.data.length c1) d.data from by
          have h1 := HD8.out.below hvb
          exact h1.other hvg (fun ad n c hv => by obtain ⟨cs, h⟩ := h1.2 ad n c hv; exact blk_ne h htc (by decide)))
        have HEB := Lib.hid (show EntsT w11 (.slice A2 d.ents.length c2) d.ents from by
          have h1 := HE8.out.below hvb
          exact h1.other hvg (fun ad n c hv => by obtain ⟨cs, h⟩ := h1.2 ad n c hv; exact blk_ne h htc (by decide)))
        clear hta hvb hvg htc hw11 HPR HPS HJ HAD HOW HTL HT8 HF8 HK8 HZ8 HD8 HE8 HB8 HDM
        by_cases hR : rightP N2
        · obtain ⟨⟨e1, e2, e3⟩, ⟨e4, e5, e6⟩, e7, e8⟩ := A0'.out HQN.out rfl HQ28.out hR
          have e9 := HAIE.out
          rw [toB_true hR, e4, e5, e6] at e9
          obtain ⟨g1, g2, g3⟩ := e9
          subst g1 g2 g3
          have HW := Lib.hid (with_any d (.slice A1 d.data.length c1) (.slice A2 d.ents.length c2) F.name (freeT t 0) w11 HDB.out.1 HEB.out.1 (HDF.out HQN.out).data (HDF.out HQN.out).ents (HNL.out HQN.out))
          rw [e3] at HW
          have HE1 := Lib.hid (And.intro e1 e2)
          have HE7 := Lib.hid e7
          have HFW := Lib.hid (right_few e8)
          obtain ⟨b0, b1, b2⟩ := HFB.out.c3
          obtain ⟨x0, x1, x2, x3, x4, x5, x6⟩ := HZB.out.c7
          generalize withM d F.name (freeT t 0) = M at HW HE7 HFW
          generalize setT t (freeT t 0) N2 = TA at HTA HE7
          obtain ⟨I, hI⟩ : ∃ I : Int, (freeT t 0 : Int) = I := ⟨_, rfl⟩
          rw [hI] at HW HE1 ⊢
          clear e1 e2 e3 e4 e5 e6 e7 e8 hR A22 A0' hI HAIE
          unfold nodeV at HW
          go_wp2_with fail
          refine HW.out.mono ?_
          rintro e w12 ⟨v, rfl, ⟨vd, ve, rfl, hd, he⟩, hb12⟩
          obtain ⟨B1, l1, rfl⟩ := bytes_form hd rfl
          obtain ⟨B2, l2, rfl⟩ := ents_form he rfl
          have hbx := al hb12 (.cells #[.int .i64 M.kind, .int .i64 M.mode, .int .i64 M.uid, .int .i64 M.gid, .slice B1 M.data.length l1, .slice B2 M.ents.length l2, .string (bA M.target)] 65)
          have hx := Blk.new w12 65 #[.int .i64 M.kind, .int .i64 M.mode, .int .i64 M.uid, .int .i64 M.gid, .slice B1 M.data.length l1, .slice B2 M.ents.length l2, .string (bA M.target)]
          have hd13 := hd.below (ba w12 (.cells #[.int .i64 M.kind, .int .i64 M.mode, .int .i64 M.uid, .int .i64 M.gid, .slice B1 M.data.length l1, .slice B2 M.ents.length l2, .string (bA M.target)] 65))
          have he13 := he.below (ba w12 (.cells #[.int .i64 M.kind, .int .i64 M.mode, .int .i64 M.uid, .int .i64 M.gid, .slice B1 M.data.length l1, .slice B2 M.ents.length l2, .string (bA M.target)] 65))
          obtain ⟨W13, hW13⟩ : ∃ W, w12.alloc (.cells #[.int .i64 M.kind, .int .i64 M.mode, .int .i64 M.uid, .int .i64 M.gid, .slice B1 M.data.length l1, .slice B2 M.ents.length l2, .string (bA M.target)] 65) = W := ⟨_, rfl⟩
          obtain ⟨zm, hzm⟩ : ∃ zm, w12.heap.size = zm := ⟨_, rfl⟩
          rw [hW13] at hbx hx hd13 he13
          rw [hzm] at hx
          have HPT := Lib.hid (put_any g TA P F.dir M _ _ W13 (HTA.out.below hbx) hd13 he13 HFW.out (fun b r => HP.out b (Nat.le_trans (Nat.le_trans HGR.out.size hbx.size) r)))
          rw [HE7.out] at HPT
          have HGX := Lib.hid (grown_trans HGR.out (grown_below hbx (some g)))
          have hfb := HFB.out.below hbx
          clear b0 b1 b2 x0 x1 x2 x3 x4 x5 x6 hd he hb12 hbx hd13 he13 HW HFW
          obtain ⟨x0, x1, x2, x3, x4, x5, x6⟩ := hx.c7
          obtain ⟨b0, b1, b2⟩ := hfb.c3
          clear hx hfb
          unfold nodeV at HPT ⊢
          generalize putE TA F.dir (toB (rightP M)) = PE at HPT
          go_wp2_with fail
          clear hW13 hzm
          refine HPT.out.mono ?_
          rintro e w14 ⟨rfl, ht14, hg14⟩
          have HTT := Lib.hid ht14
          have HGG := Lib.hid (grown_trans HGX.out hg14)
          clear ht14 hg14
          go_wp2
          go_ret2
          obtain ⟨e1, e2⟩ := HE1.out
          exact ⟨by rw [e1, e2]; rfl, HTT.out, HGG.out⟩
        · obtain ⟨e1, e2, e3⟩ := A22.out HQN.out rfl HQ28.out hR
          have e9 := HAIE.out
          rw [toB_false hR] at e9
          obtain ⟨-, g2, g3⟩ := e9
          have g2' : 22 = AE := g2
          have g3' : t = TA := g3
          subst g2' g3'
          have HX := Lib.hid (And.intro e1 (And.intro e2 e3))
          clear e1 e2 e3 g2 g3 hR A22 A0' HAIE
          go_wp2
          go_ret2
          obtain ⟨e1, e2, e3⟩ := HX.out
          exact ⟨by rw [e1, e3]; rfl, by rw [e2]; exact HTA.out, HGR.out⟩
  · have qN' : (F.node != 0) = true := by simpa using qN
    obtain ⟨e1, e2, e3⟩ := A17.out qN
    have HX := Lib.hid (And.intro e1 (And.intro e2 e3))
    clear qN e1 e2 e3 A17 A13 A28 A22 A0'
    go_wp2
    go_ret2
    obtain ⟨e1, e2, e3⟩ := HX.out
    exact ⟨by rw [e1, e3]; rfl, by rw [e2]; exact HT6.out, grown_below HB6.out _⟩
end Go.Proofs.YtnkjaocmfhjnoaaGreat
namespace Go.Proofs.YtnkjaocmfhjnoaaGreat
open Go Go.RowKit
set_option maxRecDepth 100000

attribute [local go_sem] cell_off4 cell_blk4
theorem cf_mk (args : Array Value) (W : World) : (callFunc 136 args).run Tryz.prog W = .ok (.enter 136 args) W := by
  first | (simp only [go_sem]; done) | rfl
theorem plant_any (g : Nat) (t : List Nd) (P : Nat → Prop) (c : Wh) (A0 : Option Addr) (m k : Nat) (p : Nm) (f : Bool) (Fn : FuncId) (caps : Array Value) (kd md : Int) (tg : Nm) (w : World) (h : TabR w g t P) (ht : okT t) (hc : CrR w c A0 m k) (hkd : 1 ≤ kd ∧ kd ≤ 3) (htl : tg.length ≤ 1000) (hP : ∀ b, w.heap.size ≤ b → P b) (hT : ClT w Fn caps kd md tg) (hcf : ∀ (args : Array Value) (W : World), (callFunc Fn args).run Tryz.prog W = .ok (.enter Fn args) W) :
    Calls Tryz.prog 135 #[.pointer (some ⟨g, 0, none⟩), .agg #[.int .i64 c.u, .int .i64 c.g, .slice A0 m k], .string (bA p), .bool f, .func (.func Fn) #[] caps] w fun e w' => e = .returned (.tuple #[.int .i64 (plI t c (resM t c p f) kd md tg), .int .i64 (plE t c (resM t c p f) kd md tg)]) ∧ TabR w' g (plT t c (resM t c p f) kd md tg) P ∧ w.grownBy w' (some g) := by
  obtain ⟨R, hR⟩ : ∃ R, resM t c p f = R := ⟨_, rfl⟩
  obtain ⟨F, E⟩ := R
  rw [hR]
  by_cases hz : E = 0
  · subst hz
    exact plant_go g t P c A0 m k p f Fn caps kd md tg w h ht hc hkd htl hP hT hcf F hR
  · have e1 : plE t c (F, E) kd md tg = E := pl_pre hz
    have e2 := pl_err (t := t) (c := c) (R := (F, E)) (k := kd) (m := md) (tg := tg) (by rw [e1]; exact hz)
    rw [e1, e2.1, e2.2]
    refine (plant_pre (.pointer (some ⟨g, 0, none⟩)) t c A0 m k p f Fn caps w h.ptr hc E (by rw [hR]) hz).mono ?_
    rintro e w' ⟨rfl, hb⟩
    exact ⟨rfl, h.below hb, grown_below hb _⟩
set_option maxHeartbeats 8000000 in
theorem mkdir_of (v : Value) (c : Wh) (A0 : Option Addr) (m k : Nat) (umask : Int) (p : Nm) (mode : Int) (w : World) (Q : Int → Int → World → Prop) (h1 : ∀ (mb ub : Nat) (W : World), Below w.heap.size w W → W.cell? ⟨mb, 0, none⟩ = some (.int .i64 mode) → W.cell? ⟨ub, 0, none⟩ = some (.int .i64 umask) →
      Calls Tryz.prog 135 #[v, .agg #[.int .i64 c.u, .int .i64 c.g, .slice A0 m k], .string (bA p), .bool false, .func (.func 136) #[] #[.pointer (some ⟨mb, 0, none⟩), .pointer (some ⟨ub, 0, none⟩)]] W fun e w' => ∃ i x, e = .returned (.tuple #[.int .i64 i, .int .i64 x]) ∧ Q i x w') :
    Calls Tryz.prog 103 #[v, .agg #[.int .i64 c.u, .int .i64 c.g, .slice A0 m k], .int .i64 umask, .string (bA p), .int .i64 mode] w fun e w' => ∃ i x, e = .returned (.int .i64 x) ∧ Q i x w' := by
  have hmf : ∀ (fn : Fn) (first cap : Array Value) (w : World), (Instr.makeFunc fn first cap).run Tryz.prog w = .ok (.func fn first cap) w := fun _ _ _ _ => rfl
  have hb1 := ba w (.cells #[.int .i64 c.u, .int .i64 c.g, .slice A0 m k] 30)
  have hk1 := Blk.new w 30 #[.int .i64 c.u, .int .i64 c.g, .slice A0 m k]
  obtain ⟨W1, hW1⟩ : ∃ W1, w.alloc (.cells #[.int .i64 c.u, .int .i64 c.g, .slice A0 m k] 30) = W1 := ⟨_, rfl⟩
  rw [hW1] at hb1 hk1
  have hb2 := al hb1 (.cells #[.int .i64 umask] 3)
  have hk2 := hk1.below (ba W1 (.cells #[.int .i64 umask] 3))
  have hu2 := Blk.new W1 3 #[.int .i64 umask]
  obtain ⟨ub, hub⟩ : ∃ ub, W1.heap.size = ub := ⟨_, rfl⟩
  obtain ⟨W2, hW2⟩ : ∃ W2, W1.alloc (.cells #[.int .i64 umask] 3) = W2 := ⟨_, rfl⟩
  rw [hW2] at hb2 hk2 hu2
  rw [hub] at hu2
  have hb3 := al hb2 (.cells #[.int .i64 mode] 3)
  have hk3 := hk2.below (ba W2 (.cells #[.int .i64 mode] 3))
  have hu3 := hu2.below (ba W2 (.cells #[.int .i64 mode] 3))
  have hm3 := Blk.new W2 3 #[.int .i64 mode]
  obtain ⟨mb, hmb⟩ : ∃ mb, W2.heap.size = mb := ⟨_, rfl⟩
  obtain ⟨W3, hW3⟩ : ∃ W3, W2.alloc (.cells #[.int .i64 mode] 3) = W3 := ⟨_, rfl⟩
  rw [hW3] at hb3 hk3 hu3 hm3
  rw [hmb] at hm3
  have p0 := hm3.cell 0
  have p1 := hu3.cell 0
  simp at p0 p1
  have HY := Lib.hid (h1 mb ub W3 hb3 p0 p1)
  obtain ⟨k0, k1, k2⟩ := hk3.c3
  clear h1 hb1 hk1 hb2 hk2 hu2 hb3 hk3 hu3 hm3
  go_enter Tryz.func103, Tryz.ntmps103
  go_wp2_with fail
  refine HY.out.mono ?_
  rintro e w4 ⟨i, x, rfl, h3⟩
  have H3 := Lib.hid h3
  clear h3
  go_wp2
  go_ret
  exact ⟨i, _, rfl, H3.out⟩
theorem cl_mk (mb ub : Nat) (mode umask : Int) (w : World) (hm : w.cell? ⟨mb, 0, none⟩ = some (.int .i64 mode)) (hu : w.cell? ⟨ub, 0, none⟩ = some (.int .i64 umask)) : ClT w 136 #[.pointer (some ⟨mb, 0, none⟩), .pointer (some ⟨ub, 0, none⟩)] 2 (mkM mode umask) [] := fun n A A' i c i' c' W hb hn => by
  have h := mkC_any mb ub mode umask n hn A A' i c i' c' W (bc hb hm) (bc hb hu)
  rw [show (if sgB n = true ∧ (2 : Int) = 2 then mkM mode umask + 1024 else mkM mode umask) = (if sgB n = true then mkM mode umask + 1024 else mkM mode umask) from by simp]
  exact h
theorem mkdirC : MkdirC := fun g t P c A0 m k umask p mode w h ht hc hP => by
  refine (mkdir_of (.pointer (some ⟨g, 0, none⟩)) c A0 m k umask p mode w (fun _ x w' => x = mkE t c umask p mode ∧ TabR w' g (mkT t c umask p mode) P ∧ w.grownBy w' (some g)) (fun mb ub W hb hm hu => ?_)).mono ?_
  · refine (plant_any g t P c A0 m k p false _ _ 2 (mkM mode umask) [] W (h.below hb) ht (hc.below hb) ⟨by decide, by decide⟩ (by decide) (fun b r => hP b (Nat.le_trans hb.size r)) (cl_mk mb ub mode umask W hm hu) cf_mk).mono ?_
    rintro e w' ⟨rfl, h2, h3⟩
    exact ⟨_, _, rfl, rfl, h2, grown_trans (grown_below hb _) h3⟩
  · rintro e w' ⟨i, x, rfl, rfl, h2, h3⟩
    exact ⟨rfl, h2, h3⟩
end Go.Proofs.YtnkjaocmfhjnoaaGreat
