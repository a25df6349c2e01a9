/-
  Package change: none, free, attr. The conditions: tables and lists are as DfR has them. Package change: make. The conditions: tables and lists are as DfR has them. Package change: take. The conditions: tables and lists are as DfR has them. Package change: move. The conditions: tables and lists are as DfR has them.
-/
import Derived.Test.YtnkjaocmfhjnoaaGreatE19
import Derived.Deep.DeepCutAuto
namespace Go.Proofs.YtnkjaocmfhjnoaaGreat
open Go Go.RowKit
set_option maxRecDepth 100000

attribute [local go_sem] cell_off4 cell_blk4
def KdA (w : World) (P : Chg × Bool) (e : Ending) (w' : World) : Prop := e = .returned (.tuple #[.agg (chC P.1), .bool P.2]) ∧ Below w.heap.size w w'
theorem grown_ch (w : World) (g : Nat) (c : Chg) : w.grownBy (put7 w g (.int .i64 c.kind) (.int .i64 c.node) (.int .i64 c.dir) (.string (bA c.name)) (.int .i64 c.to) (.string (bA c.other)) (.int .i64 c.over)) (some g) := grown7 _ _ _ _ _ _ _ _ _
theorem isE_toB {l : List Int} : l.isEmpty = toB (l = []) := by
  cases l with
  | nil => rw [toB_true rfl]; rfl
  | cons x l => rw [toB_false (by simp)]; rfl
theorem nothB4 (f g e s : List Int) (N : Nat → List Int) (h1 : N 1 = f) (h2 : N 2 = g) (h3 : N 3 = e) (h4 : N 4 = s) : nonB f g e s = [1, 2, 3, 4].all (fun f => (N f).isEmpty) := by
  unfold nonB
  simp only [List.all_cons, List.all_nil, Bool.and_true, h1, h2, h3, h4, isE_toB, toB_and]
theorem nothB3 (f e s : List Int) (N : Nat → List Int) (h1 : N 1 = f) (h3 : N 3 = e) (h4 : N 4 = s) : toB (f = [] ∧ e = [] ∧ s = []) = [1, 3, 4].all (fun f => (N f).isEmpty) := by
  simp only [List.all_cons, List.all_nil, Bool.and_true, h1, h3, h4, isE_toB, toB_and]
theorem nothB2 {a b : Nat} (N : Nat → List Int) : toB (N a = [] ∧ N b = []) = [a, b].all (fun f => (N f).isEmpty) := by
  simp only [List.all_cons, List.all_nil, Bool.and_true, isE_toB, toB_and]
section
variable {w : World} {vb va : Value} {A : Nat → Option Addr} {C : Nat → Nat} {N : Nat → List Int} {A5 : Option Addr} {c5 : Nat} {lost : List Ech} {A6 : Option Addr} {c6 : Nat} {won : List Ech} {t u : List Nd}
theorem noth_lit (fs : List Nat) (hf : ∀ f ∈ fs, f < 5) (hl : fs.length ≤ 1000) (W : World) :
    Calls Tryz.prog 58 #[dfV vb va A C N A5 c5 lost A6 c6 won, .slice (some ⟨W.heap.size, 0, none⟩) fs.length fs.length] (W.alloc (.cells (iCells (fs.map (fun (f : Nat) => (f : Int)))).toArray 3)) fun e w' => e = .returned (.bool (fs.all (fun f => (N f).isEmpty))) ∧ Below W.heap.size W w' := by
  have h1 := ints_lit W (fs.map (fun (f : Nat) => (f : Int)))
  rw [List.length_map] at h1
  refine (nothing_any fs hf _ _ h1 hl).mono ?_
  rintro e w' ⟨rfl, hb⟩
  exact ⟨rfl, bt hb (ba _ _)⟩
set_option maxHeartbeats 4000000 in
theorem none_any (w : World) (h : DfR w vb va A C N A5 c5 lost A6 c6 won t u) :
    Calls Tryz.prog 29 #[dfV vb va A C N A5 c5 lost A6 c6 won] w (KdA w (Chg.zero, nonB (N 1) (N 2) (N 3) (N 4))) := by
  obtain ⟨W1, hW1⟩ : ∃ W, (w.alloc (.cells (dfC vb va A C N A5 c5 lost A6 c6 won) 87)).alloc (.cells chZ 36) = W := ⟨_, rfl⟩
  have hb1 : Below w.heap.size w W1 := by rw [← hW1]; exact al (ba _ _) _
  have hk1 : Blk W1 w.heap.size 87 (dfC vb va A C N A5 c5 lost A6 c6 won) := by rw [← hW1]; exact (Blk.new _ _ _).alloc _
  obtain ⟨z2, hz2⟩ : ∃ z, w.heap.size + 1 = z := ⟨_, rfl⟩
  have hk2 : Blk W1 z2 36 chZ := by
    have h1 := Blk.new (w.alloc (.cells (dfC vb va A C N A5 c5 lost A6 c6 won) 87)) 36 chZ
    rw [← hW1, ← hz2]
    simpa using h1
  have HZ := Lib.hid (show w.heap.size ≤ z2 ∧ w.heap.size ≠ z2 from ⟨by omega, by omega⟩)
  have HD := Lib.hid (h.below hb1)
  have HB := Lib.hid hb1
  have HK1 := Lib.hid hk1
  have HK2 := Lib.hid hk2
  obtain ⟨x0, x1, x2, x3, x4, x5, x6, x7, x8⟩ := hk1.c9
  clear h hb1 hk1 hk2
  have HNO := Lib.hid (fun W => noth_lit (C := C) (A := A) (N := N) (vb := vb) (va := va) (A5 := A5) (c5 := c5) (lost := lost) (A6 := A6) (c6 := c6) (won := won) [1, 2, 3, 4] (by decide) (by decide) W)
  have HQ := Lib.hid (show nonB (N 1) (N 2) (N 3) (N 4) = [1, 2, 3, 4].all (fun f => (N f).isEmpty) from nothB4 _ _ _ _ _ rfl rfl rfl rfl)
  generalize [1, 2, 3, 4].all (fun f => (N f).isEmpty) = q at HNO HQ
  go_enter Tryz.func29, Tryz.ntmps29
  go_wp2_with fail
  clear hz2
  refine (HNO.out W1).mono ?_
  rintro e wz ⟨rfl, hb2⟩
  clear x0 x1 x2 x3 x4 x5 x6 x7 x8 hW1
  have hk2' := HK2.out.below hb2
  obtain ⟨p0, p1, p2, p3, p4, p5, p6⟩ := hk2'.c7
  obtain ⟨f0, f1, f2, f3, f4, f5, f6⟩ := hk2'.f7
  obtain ⟨s0, s1, s2, s3, s4, s5, s6⟩ := hk2'.s7
  have HBZ := Lib.hid (below_grown (bt hb2 HB.out) (grown7 wz z2 (.int .i64 0) (.int .i64 0) (.int .i64 0) (.string ⟨#[]⟩) (.int .i64 0) (.string ⟨#[]⟩) (.int .i64 0)) HZ.out.1)
  clear hk2' hb2
  go_wp2
  refine bodyPost_ret (v := .tuple #[.agg #[.int .i64 0, .int .i64 0, .int .i64 0, .string ⟨#[]⟩, .int .i64 0, .string ⟨#[]⟩, .int .i64 0], .bool q]) (by simp [results, Tryz.results29, go_sem, s0, s1, s2, s3, s4, s5, s6]) rfl ?_
  exact ⟨by rw [HQ.out]; rfl, HBZ.out⟩
set_option maxHeartbeats 4000000 in
theorem free_any (w : World) (h : DfR w vb va A C N A5 c5 lost A6 c6 won t u) :
    Calls Tryz.prog 33 #[dfV vb va A C N A5 c5 lost A6 c6 won] w (KdA w (Chg.n 6 (onlyI (N 2)), freB (N 1) (N 2) (N 3) (N 4))) := by
  obtain ⟨W1, hW1⟩ : ∃ W, (w.alloc (.cells (dfC vb va A C N A5 c5 lost A6 c6 won) 87)).alloc (.cells chZ 36) = W := ⟨_, rfl⟩
  have hb1 : Below w.heap.size w W1 := by rw [← hW1]; exact al (ba _ _) _
  have hk1 : Blk W1 w.heap.size 87 (dfC vb va A C N A5 c5 lost A6 c6 won) := by rw [← hW1]; exact (Blk.new _ _ _).alloc _
  obtain ⟨z2, hz2⟩ : ∃ z, w.heap.size + 1 = z := ⟨_, rfl⟩
  have hk2 : Blk W1 z2 36 chZ := by
    have h1 := Blk.new (w.alloc (.cells (dfC vb va A C N A5 c5 lost A6 c6 won) 87)) 36 chZ
    rw [← hW1, ← hz2]
    simpa using h1
  have HZ := Lib.hid (show w.heap.size ≤ z2 ∧ w.heap.size ≠ z2 from ⟨by omega, by omega⟩)
  have HD := Lib.hid (h.below hb1)
  have HB := Lib.hid hb1
  have HK1 := Lib.hid hk1
  have HK2 := Lib.hid hk2
  obtain ⟨x0, x1, x2, x3, x4, x5, x6, x7, x8⟩ := hk1.c9
  clear h hb1 hk1 hk2
  have HNO := Lib.hid (fun W => noth_lit (C := C) (A := A) (N := N) (vb := vb) (va := va) (A5 := A5) (c5 := c5) (lost := lost) (A6 := A6) (c6 := c6) (won := won) [1, 3, 4] (by decide) (by decide) W)
  have HO := Lib.hid (only_any 2 (.inr (.inl rfl)) W1 HD.out)
  rw [show ((2 : Nat) : Int) = 2 from rfl] at HO
  have HQ := Lib.hid (show freB (N 1) (N 2) (N 3) (N 4) = (onlyI (N 2) != 0 && [1, 3, 4].all (fun f => (N f).isEmpty)) from by unfold freB; rw [nothB3 _ _ _ _ rfl rfl rfl])
  generalize [1, 3, 4].all (fun f => (N f).isEmpty) = q at HNO HQ
  generalize onlyI (N 2) = O at HO HQ ⊢
  by_cases h0 : O = 0
  · have h1 : (O != 0) = false := by simpa using h0
    have HQ2 := Lib.hid (show freB (N 1) (N 2) (N 3) (N 4) = false by rw [HQ.out, h1]; rfl)
    clear h0 HNO
    go_enter Tryz.func33, Tryz.ntmps33
    go_wp2_with fail
    clear hz2 hW1
    refine HO.out.mono ?_
    rintro e wz ⟨rfl, hb2⟩
    clear x0 x1 x2 x3 x4 x5 x6 x7 x8
    have hk2' := HK2.out.below hb2
    obtain ⟨p0, p1, p2, p3, p4, p5, p6⟩ := hk2'.c7
    obtain ⟨f0, f1, f2, f3, f4, f5, f6⟩ := hk2'.f7
    obtain ⟨s0, s1, s2, s3, s4, s5, s6⟩ := hk2'.s7
    have HBZ := Lib.hid (below_grown (bt hb2 HB.out) (grown7 wz z2 (.int .i64 6) (.int .i64 O) (.int .i64 0) (.string ⟨#[]⟩) (.int .i64 0) (.string ⟨#[]⟩) (.int .i64 0)) HZ.out.1)
    clear hk2' hb2
    go_wp2
    refine bodyPost_ret (v := .tuple #[.agg #[.int .i64 6, .int .i64 O, .int .i64 0, .string ⟨#[]⟩, .int .i64 0, .string ⟨#[]⟩, .int .i64 0], .bool false]) (by simp [results, Tryz.results33, go_sem, s0, s1, s2, s3, s4, s5, s6]) rfl ?_
    exact ⟨by rw [HQ2.out]; rfl, HBZ.out⟩
  · have h1 : (O != 0) = true := by simpa using h0
    have HQ2 := Lib.hid (show freB (N 1) (N 2) (N 3) (N 4) = q by rw [HQ.out, h1]; rfl)
    clear h0
    go_enter Tryz.func33, Tryz.ntmps33
    go_wp2_with fail
    clear hz2 hW1
    refine HO.out.mono ?_
    rintro e w2 ⟨rfl, hb2⟩
    have HB2 := Lib.hid hb2
    obtain ⟨x0, x1, x2, x3, x4, x5, x6, x7, x8⟩ := (HK1.out.below hb2).c9
    clear hb2
    go_wp2_with fail
    refine (HNO.out w2).mono ?_
    rintro e wz ⟨rfl, hb3⟩
    have hb4 := bt hb3 HB2.out
    clear x0 x1 x2 x3 x4 x5 x6 x7 x8 hb3
    have hk2' := HK2.out.below hb4
    obtain ⟨p0, p1, p2, p3, p4, p5, p6⟩ := hk2'.c7
    obtain ⟨f0, f1, f2, f3, f4, f5, f6⟩ := hk2'.f7
    obtain ⟨s0, s1, s2, s3, s4, s5, s6⟩ := hk2'.s7
    have HBZ := Lib.hid (below_grown (bt hb4 HB.out) (grown7 wz z2 (.int .i64 6) (.int .i64 O) (.int .i64 0) (.string ⟨#[]⟩) (.int .i64 0) (.string ⟨#[]⟩) (.int .i64 0)) HZ.out.1)
    clear hk2' hb4
    go_wp2
    refine bodyPost_ret (v := .tuple #[.agg #[.int .i64 6, .int .i64 O, .int .i64 0, .string ⟨#[]⟩, .int .i64 0, .string ⟨#[]⟩, .int .i64 0], .bool q]) (by simp [results, Tryz.results33, go_sem, s0, s1, s2, s3, s4, s5, s6]) rfl ?_
    exact ⟨by rw [HQ2.out]; rfl, HBZ.out⟩
end
end Go.Proofs.YtnkjaocmfhjnoaaGreat
namespace Go.Proofs.YtnkjaocmfhjnoaaGreat
open Go Go.RowKit
set_option maxRecDepth 100000

attribute [local go_sem] cell_off4 cell_blk4
section
variable {w : World} {vb va : Value} {A : Nat → Option Addr} {C : Nat → Nat} {N : Nat → List Int} {A5 : Option Addr} {c5 : Nat} {lost : List Ech} {A6 : Option Addr} {c6 : Nat} {won : List Ech} {t u : List Nd}
set_option maxHeartbeats 8000000 in
theorem make_any (w : World) (h : DfR w vb va A C N A5 c5 lost A6 c6 won t u) :
    Calls Tryz.prog 32 #[dfV vb va A C N A5 c5 lost A6 c6 won] w (KdA w (mkP (N 1) (N 2) (N 4) lost won)) := by
  obtain ⟨W1, hW1⟩ : ∃ W, (w.alloc (.cells (dfC vb va A C N A5 c5 lost A6 c6 won) 87)).alloc (.cells chZ 36) = W := ⟨_, rfl⟩
  have hb1 : Below w.heap.size w W1 := by rw [← hW1]; exact al (ba _ _) _
  have hk1 : Blk W1 w.heap.size 87 (dfC vb va A C N A5 c5 lost A6 c6 won) := by rw [← hW1]; exact (Blk.new _ _ _).alloc _
  obtain ⟨z2, hz2⟩ : ∃ z, w.heap.size + 1 = z := ⟨_, rfl⟩
  have hk2 : Blk W1 z2 36 chZ := by
    have h1 := Blk.new (w.alloc (.cells (dfC vb va A C N A5 c5 lost A6 c6 won) 87)) 36 chZ
    rw [← hW1, ← hz2]
    simpa using h1
  have HZ := Lib.hid (show w.heap.size ≤ z2 ∧ w.heap.size ≠ z2 from ⟨by omega, by omega⟩)
  have HD := Lib.hid (h.below hb1)
  have HB := Lib.hid hb1
  have HK1 := Lib.hid hk1
  have HK2 := Lib.hid hk2
  obtain ⟨x0, x1, x2, x3, x4, x5, x6, x7, x8⟩ := hk1.c9
  clear h hb1 hk1 hk2
  have HNO := Lib.hid (fun W => noth_lit (C := C) (A := A) (N := N) (vb := vb) (va := va) (A5 := A5) (c5 := c5) (lost := lost) (A6 := A6) (c6 := c6) (won := won) [2, 4] (by decide) (by decide) W)
  have HO := Lib.hid (only_any 1 (.inl rfl) W1 HD.out)
  rw [show ((1 : Nat) : Int) = 1 from rfl] at HO
  have HQ := Lib.hid (show toB (N 2 = [] ∧ N 4 = []) = [2, 4].all (fun f => (N f).isEmpty) from nothB2 N)
  generalize [2, 4].all (fun f => (N f).isEmpty) = q at HNO HQ
  by_cases h0 : onlyI (N 1) = 0
  · have HQ2 := Lib.hid (show mkP (N 1) (N 2) (N 4) lost won = (Chg.zero, false) from if_pos (.inl h0))
    rw [h0] at HO
    clear h0 HNO HQ
    go_enter Tryz.func32, Tryz.ntmps32
    go_wp2_with fail
    clear hz2 hW1
    refine HO.out.mono ?_
    rintro e wz ⟨rfl, hb2⟩
    clear x0 x1 x2 x3 x4 x5 x6 x7 x8
    have hk2' := HK2.out.below hb2
    obtain ⟨p0, p1, p2, p3, p4, p5, p6⟩ := hk2'.c7
    obtain ⟨f0, f1, f2, f3, f4, f5, f6⟩ := hk2'.f7
    obtain ⟨s0, s1, s2, s3, s4, s5, s6⟩ := hk2'.s7
    have HBZ := Lib.hid (below_grown (bt hb2 HB.out) (grown7 wz z2 (.int .i64 0) (.int .i64 0) (.int .i64 0) (.string ⟨#[]⟩) (.int .i64 0) (.string ⟨#[]⟩) (.int .i64 0)) HZ.out.1)
    clear hk2' hb2
    go_wp2
    refine bodyPost_ret (v := .tuple #[.agg #[.int .i64 0, .int .i64 0, .int .i64 0, .string ⟨#[]⟩, .int .i64 0, .string ⟨#[]⟩, .int .i64 0], .bool false]) (by simp [results, Tryz.results32, go_sem, s0, s1, s2, s3, s4, s5, s6]) rfl ?_
    exact ⟨by rw [HQ2.out]; rfl, HBZ.out⟩
  have h1 : (onlyI (N 1) == 0) = false := by simpa using h0
  obtain ⟨O, hO⟩ : ∃ O, onlyI (N 1) = O := ⟨_, rfl⟩
  rw [hO] at HO h1
  have HHO := Lib.hid hO
  have HH0 := Lib.hid h0
  clear hO h0
  go_enter Tryz.func32, Tryz.ntmps32
  go_wp2_with fail
  clear hz2 hW1
  refine HO.out.mono ?_
  rintro e w2 ⟨rfl, hb2⟩
  have HB2 := Lib.hid hb2
  obtain ⟨x0, x1, x2, x3, x4, x5, x6, x7, x8⟩ := (HK1.out.below hb2).c9
  clear hb2 HO
  go_wp2_with fail
  refine (HNO.out w2).mono ?_
  rintro e w3 ⟨rfl, hb3⟩
  have hb4 := bt hb3 HB2.out
  have HB4 := Lib.hid hb4
  obtain ⟨x0, x1, x2, x3, x4, x5, x6, x7, x8⟩ := (HK1.out.below hb4).c9
  clear hb3 HNO HB2
  cases q
  · have HQ2 := Lib.hid (show mkP (N 1) (N 2) (N 4) lost won = (Chg.zero, false) from if_pos (.inr (.inl (fun z => by have := HQ.out; rw [toB_true z] at this; cases this))))
    clear x0 x1 x2 x3 x4 x5 x6 x7 x8
    have hk2' := HK2.out.below hb4
    obtain ⟨p0, p1, p2, p3, p4, p5, p6⟩ := hk2'.c7
    obtain ⟨f0, f1, f2, f3, f4, f5, f6⟩ := hk2'.f7
    obtain ⟨s0, s1, s2, s3, s4, s5, s6⟩ := hk2'.s7
    have HBZ := Lib.hid (below_grown (bt hb4 HB.out) (grown7 w3 z2 (.int .i64 0) (.int .i64 0) (.int .i64 0) (.string ⟨#[]⟩) (.int .i64 0) (.string ⟨#[]⟩) (.int .i64 0)) HZ.out.1)
    clear hk2' hb4
    go_wp2
    refine bodyPost_ret (v := .tuple #[.agg #[.int .i64 0, .int .i64 0, .int .i64 0, .string ⟨#[]⟩, .int .i64 0, .string ⟨#[]⟩, .int .i64 0], .bool false]) (by simp [results, Tryz.results32, go_sem, s0, s1, s2, s3, s4, s5, s6]) rfl ?_
    exact ⟨by rw [HQ2.out]; rfl, HBZ.out⟩
  have HNN := Lib.hid (show N 2 = [] ∧ N 4 = [] from toB_iff.1 HQ.out)
  by_cases hl0 : lost = []
  case neg =>
    have HQ2 := Lib.hid (show mkP (N 1) (N 2) (N 4) lost won = (Chg.zero, false) from if_pos (.inr (.inr (.inl hl0))))
    have c1 : ((lost.length : Int) != 0) = true := by
      rw [bne_iff_ne]
      have := List.length_pos_iff.2 hl0
      omega
    clear hl0
    have hk2' := HK2.out.below hb4
    obtain ⟨p0, p1, p2, p3, p4, p5, p6⟩ := hk2'.c7
    obtain ⟨f0, f1, f2, f3, f4, f5, f6⟩ := hk2'.f7
    obtain ⟨s0, s1, s2, s3, s4, s5, s6⟩ := hk2'.s7
    have HBZ := Lib.hid (below_grown (bt hb4 HB.out) (grown7 w3 z2 (.int .i64 0) (.int .i64 0) (.int .i64 0) (.string ⟨#[]⟩) (.int .i64 0) (.string ⟨#[]⟩) (.int .i64 0)) HZ.out.1)
    clear hk2' hb4
    go_wp2
    refine bodyPost_ret (v := .tuple #[.agg #[.int .i64 0, .int .i64 0, .int .i64 0, .string ⟨#[]⟩, .int .i64 0, .string ⟨#[]⟩, .int .i64 0], .bool false]) (by simp [results, Tryz.results32, go_sem, s0, s1, s2, s3, s4, s5, s6]) rfl ?_
    exact ⟨by rw [HQ2.out]; rfl, HBZ.out⟩
  have c1 : ((lost.length : Int) != 0) = false := by rw [hl0]; rfl
  by_cases hl1 : won.length = 1
  case neg =>
    have HQ2 := Lib.hid (show mkP (N 1) (N 2) (N 4) lost won = (Chg.zero, false) from if_pos (.inr (.inr (.inr hl1))))
    have c2 : ((won.length : Int) != 1) = true := by
      rw [bne_iff_ne]
      omega
    clear hl0 hl1
    have hk2' := HK2.out.below hb4
    obtain ⟨p0, p1, p2, p3, p4, p5, p6⟩ := hk2'.c7
    obtain ⟨f0, f1, f2, f3, f4, f5, f6⟩ := hk2'.f7
    obtain ⟨s0, s1, s2, s3, s4, s5, s6⟩ := hk2'.s7
    have HBZ := Lib.hid (below_grown (bt hb4 HB.out) (grown7 w3 z2 (.int .i64 0) (.int .i64 0) (.int .i64 0) (.string ⟨#[]⟩) (.int .i64 0) (.string ⟨#[]⟩) (.int .i64 0)) HZ.out.1)
    clear hk2' hb4
    go_wp2
    refine bodyPost_ret (v := .tuple #[.agg #[.int .i64 0, .int .i64 0, .int .i64 0, .string ⟨#[]⟩, .int .i64 0, .string ⟨#[]⟩, .int .i64 0], .bool false]) (by simp [results, Tryz.results32, go_sem, s0, s1, s2, s3, s4, s5, s6]) rfl ?_
    exact ⟨by rw [HQ2.out]; rfl, HBZ.out⟩
  have HE := Lib.hid (HD.out.wo.below hb4)
  obtain ⟨x, rfl⟩ := one_of hl1
  obtain ⟨ad, rfl, d0, d1, d2⟩ := ech_get HE.out (show [x][0]? = some x from rfl)
  simp only [Nat.zero_mul, add_none] at d0 d1 d2
  have c2 : ((([x] : List Ech).length : Int) != 1) = false := rfl
  have HQ2 := Lib.hid (show mkP (N 1) (N 2) (N 4) lost [x] = (⟨3, O, x.dir, x.name, 0, [], 0⟩, x.node == O) by
    unfold mkP
    rw [if_neg (fun z => by
      rcases z with z | z | z | z
      · exact HH0.out z
      · exact z HNN.out
      · exact z hl0
      · exact z rfl), HHO.out]
    rfl)
  have HQ3 := Lib.hid (And.intro hl0 hl1)
  have hln : ([x] : List Ech).length = 1 := rfl
  rw [hln] at x8
  clear hl0 hl1 HQ HE hln
  obtain ⟨z5, hz5⟩ : ∃ z, w3.heap.size = z := ⟨_, rfl⟩
  have hb5 := bt (ba w3 (.cells #[.int .i64 x.dir, .string (bA x.name), .int .i64 x.node] 131)) hb4
  have hk5 := Blk.new w3 131 #[.int .i64 x.dir, .string (bA x.name), .int .i64 x.node]
  have h25 : z2 ≠ z5 := by have := (HK2.out.below hb4).lt; omega
  have h52 : z5 ≠ z2 := fun z => h25 z.symm
  obtain ⟨W5, hW5⟩ : ∃ W, w3.alloc (.cells #[.int .i64 x.dir, .string (bA x.name), .int .i64 x.node] 131) = W := ⟨_, rfl⟩
  rw [hz5] at hk5
  rw [hW5] at hb5 hk5
  go_upto_region 5 with fail
  clear hW5 hz5 d0 d1 d2 x0 x1 x2 x3 x4 x5 x6 x7 x8 hb4
  obtain ⟨k0, k1, k2⟩ := hk5.c3
  have hk2' := HK2.out.below hb5
  obtain ⟨p0, p1, p2, p3, p4, p5, p6⟩ := hk2'.c7
  obtain ⟨f0, f1, f2, f3, f4, f5, f6⟩ := hk2'.f7
  obtain ⟨s0, s1, s2, s3, s4, s5, s6⟩ := hk2'.s7
  have HBZ := Lib.hid (below_grown (bt hb5 HB.out) (grown7 W5 z2 (.int .i64 3) (.int .i64 O) (.int .i64 x.dir) (.string (bA x.name)) (.int .i64 0) (.string ⟨#[]⟩) (.int .i64 0)) HZ.out.1)
  clear hk2' hb5 hk5
  go_region
  go_wp2
  exact bodyPost_ret (v := .tuple #[.agg #[.int .i64 3, .int .i64 O, .int .i64 x.dir, .string (bA x.name), .int .i64 0, .string ⟨#[]⟩, .int .i64 0], .bool (x.node == O)]) (by simp [results, Tryz.results32, go_sem, s0, s1, s2, s3, s4, s5, s6]) rfl ⟨by rw [HQ2.out]; rfl, HBZ.out.drew⟩
end
end Go.Proofs.YtnkjaocmfhjnoaaGreat
namespace Go.Proofs.YtnkjaocmfhjnoaaGreat
open Go Go.RowKit
set_option maxRecDepth 100000

attribute [local go_sem] cell_off4 cell_blk4
section
variable {w : World} {vb va : Value} {A : Nat → Option Addr} {C : Nat → Nat} {N : Nat → List Int} {A5 : Option Addr} {c5 : Nat} {lost : List Ech} {A6 : Option Addr} {c6 : Nat} {won : List Ech} {t u : List Nd}
set_option maxHeartbeats 8000000 in
theorem take_any (w : World) (h : DfR w vb va A C N A5 c5 lost A6 c6 won t u) :
    Calls Tryz.prog 34 #[dfV vb va A C N A5 c5 lost A6 c6 won] w (KdA w (takP (N 1) (N 2) (N 4) lost won)) := by
  obtain ⟨W1, hW1⟩ : ∃ W, (w.alloc (.cells (dfC vb va A C N A5 c5 lost A6 c6 won) 87)).alloc (.cells chZ 36) = W := ⟨_, rfl⟩
  have hb1 : Below w.heap.size w W1 := by rw [← hW1]; exact al (ba _ _) _
  have hk1 : Blk W1 w.heap.size 87 (dfC vb va A C N A5 c5 lost A6 c6 won) := by rw [← hW1]; exact (Blk.new _ _ _).alloc _
  obtain ⟨z2, hz2⟩ : ∃ z, w.heap.size + 1 = z := ⟨_, rfl⟩
  have hk2 : Blk W1 z2 36 chZ := by
    have h1 := Blk.new (w.alloc (.cells (dfC vb va A C N A5 c5 lost A6 c6 won) 87)) 36 chZ
    rw [← hW1, ← hz2]
    simpa using h1
  have HZ := Lib.hid (show w.heap.size ≤ z2 ∧ w.heap.size ≠ z2 from ⟨by omega, by omega⟩)
  have HD := Lib.hid (h.below hb1)
  have HB := Lib.hid hb1
  have HK1 := Lib.hid hk1
  have HK2 := Lib.hid hk2
  obtain ⟨x0, x1, x2, x3, x4, x5, x6, x7, x8⟩ := hk1.c9
  clear h hb1 hk1 hk2
  have HNO := Lib.hid (fun W => noth_lit (C := C) (A := A) (N := N) (vb := vb) (va := va) (A5 := A5) (c5 := c5) (lost := lost) (A6 := A6) (c6 := c6) (won := won) [1, 4] (by decide) (by decide) W)
  have HQ := Lib.hid (show toB (N 1 = [] ∧ N 4 = []) = [1, 4].all (fun f => (N f).isEmpty) from nothB2 N)
  generalize [1, 4].all (fun f => (N f).isEmpty) = q at HNO HQ
  go_enter Tryz.func34, Tryz.ntmps34
  go_wp2_with fail
  clear hz2
  refine (HNO.out W1).mono ?_
  rintro e w3 ⟨rfl, hb4⟩
  clear hW1
  have HB4 := Lib.hid hb4
  obtain ⟨x0, x1, x2, x3, x4, x5, x6, x7, x8⟩ := (HK1.out.below hb4).c9
  clear HNO
  cases q
  · have HQ2 := Lib.hid (show takP (N 1) (N 2) (N 4) lost won = (Chg.zero, false) from if_pos (.inl (fun z => by have := HQ.out; rw [toB_true z] at this; cases this)))
    clear x0 x1 x2 x3 x4 x5 x6 x7 x8
    have hk2' := HK2.out.below hb4
    obtain ⟨p0, p1, p2, p3, p4, p5, p6⟩ := hk2'.c7
    obtain ⟨f0, f1, f2, f3, f4, f5, f6⟩ := hk2'.f7
    obtain ⟨s0, s1, s2, s3, s4, s5, s6⟩ := hk2'.s7
    have HBZ := Lib.hid (below_grown (bt hb4 HB.out) (grown7 w3 z2 (.int .i64 0) (.int .i64 0) (.int .i64 0) (.string ⟨#[]⟩) (.int .i64 0) (.string ⟨#[]⟩) (.int .i64 0)) HZ.out.1)
    clear hk2' hb4
    go_wp2
    refine bodyPost_ret (v := .tuple #[.agg #[.int .i64 0, .int .i64 0, .int .i64 0, .string ⟨#[]⟩, .int .i64 0, .string ⟨#[]⟩, .int .i64 0], .bool false]) (by simp [results, Tryz.results34, go_sem, s0, s1, s2, s3, s4, s5, s6]) rfl ?_
    exact ⟨by rw [HQ2.out]; rfl, HBZ.out⟩
  have HNN := Lib.hid (show N 1 = [] ∧ N 4 = [] from toB_iff.1 HQ.out)
  by_cases hl1 : lost.length = 1
  case neg =>
    have HQ2 := Lib.hid (show takP (N 1) (N 2) (N 4) lost won = (Chg.zero, false) from if_pos (.inr (.inl hl1)))
    have c2 : ((lost.length : Int) != 1) = true := by
      rw [bne_iff_ne]
      omega
    clear hl1
    have hk2' := HK2.out.below hb4
    obtain ⟨p0, p1, p2, p3, p4, p5, p6⟩ := hk2'.c7
    obtain ⟨f0, f1, f2, f3, f4, f5, f6⟩ := hk2'.f7
    obtain ⟨s0, s1, s2, s3, s4, s5, s6⟩ := hk2'.s7
    have HBZ := Lib.hid (below_grown (bt hb4 HB.out) (grown7 w3 z2 (.int .i64 0) (.int .i64 0) (.int .i64 0) (.string ⟨#[]⟩) (.int .i64 0) (.string ⟨#[]⟩) (.int .i64 0)) HZ.out.1)
    clear hk2' hb4
    go_wp2
    refine bodyPost_ret (v := .tuple #[.agg #[.int .i64 0, .int .i64 0, .int .i64 0, .string ⟨#[]⟩, .int .i64 0, .string ⟨#[]⟩, .int .i64 0], .bool false]) (by simp [results, Tryz.results34, go_sem, s0, s1, s2, s3, s4, s5, s6]) rfl ?_
    exact ⟨by rw [HQ2.out]; rfl, HBZ.out⟩
  by_cases hl0 : won = []
  case neg =>
    have HQ2 := Lib.hid (show takP (N 1) (N 2) (N 4) lost won = (Chg.zero, false) from if_pos (.inr (.inr hl0)))
    have c1 : ((won.length : Int) != 0) = true := by
      rw [bne_iff_ne]
      have := List.length_pos_iff.2 hl0
      omega
    have c2 : ((lost.length : Int) != 1) = false := by rw [hl1]; rfl
    clear hl0 hl1
    have hk2' := HK2.out.below hb4
    obtain ⟨p0, p1, p2, p3, p4, p5, p6⟩ := hk2'.c7
    obtain ⟨f0, f1, f2, f3, f4, f5, f6⟩ := hk2'.f7
    obtain ⟨s0, s1, s2, s3, s4, s5, s6⟩ := hk2'.s7
    have HBZ := Lib.hid (below_grown (bt hb4 HB.out) (grown7 w3 z2 (.int .i64 0) (.int .i64 0) (.int .i64 0) (.string ⟨#[]⟩) (.int .i64 0) (.string ⟨#[]⟩) (.int .i64 0)) HZ.out.1)
    clear hk2' hb4
    go_wp2
    refine bodyPost_ret (v := .tuple #[.agg #[.int .i64 0, .int .i64 0, .int .i64 0, .string ⟨#[]⟩, .int .i64 0, .string ⟨#[]⟩, .int .i64 0], .bool false]) (by simp [results, Tryz.results34, go_sem, s0, s1, s2, s3, s4, s5, s6]) rfl ?_
    exact ⟨by rw [HQ2.out]; rfl, HBZ.out⟩
  have c1 : ((won.length : Int) != 0) = false := by rw [hl0]; rfl
  have HE := Lib.hid (HD.out.lo.below hb4)
  obtain ⟨x, rfl⟩ := one_of hl1
  obtain ⟨ad, rfl, d0, d1, d2⟩ := ech_get HE.out (show [x][0]? = some x from rfl)
  simp only [Nat.zero_mul, add_none] at d0 d1 d2
  have c2 : ((([x] : List Ech).length : Int) != 1) = false := rfl
  have HQ2 := Lib.hid (show takP (N 1) (N 2) (N 4) [x] won = (⟨4, x.node, x.dir, x.name, 0, [], 0⟩, !gbB (N 2) x.node) by
    unfold takP
    rw [if_neg (fun z => by
      rcases z with z | z | z
      · exact z HNN.out
      · exact z rfl
      · exact z hl0)]
    rfl)
  have hln : ([x] : List Ech).length = 1 := rfl
  rw [hln] at x7
  clear hl0 hl1 HQ HE
  obtain ⟨z5, hz5⟩ : ∃ z, w3.heap.size = z := ⟨_, rfl⟩
  have hb5 := bt (ba w3 (.cells #[.int .i64 x.dir, .string (bA x.name), .int .i64 x.node] 131)) hb4
  have hk5 := Blk.new w3 131 #[.int .i64 x.dir, .string (bA x.name), .int .i64 x.node]
  have h25 : z2 ≠ z5 := by have := (HK2.out.below hb4).lt; omega
  have h52 : z5 ≠ z2 := fun z => h25 z.symm
  obtain ⟨W5, hW5⟩ : ∃ W, w3.alloc (.cells #[.int .i64 x.dir, .string (bA x.name), .int .i64 x.node] 131) = W := ⟨_, rfl⟩
  rw [hz5] at hk5
  rw [hW5] at hb5 hk5
  go_upto_region 4 with fail
  clear hW5 hz5 d0 d1 d2 x0 x1 x2 x3 x4 x5 x6 x7 x8 hb4
  have HB5 := Lib.hid hb5
  have HGB := Lib.hid (fun (V : World) (hv : Below W5.heap.size W5 V) => goneBut_any x.node V (HD.out.below (bt hv hb5)))
  have HPR := Lib.hid (show ∀ V : World, Below W5.heap.size W5 V → V.cell? ⟨w.heap.size, 0, none⟩ = some vb ∧ V.cell? ⟨w.heap.size, 1, none⟩ = some va ∧ V.cell? ⟨w.heap.size, 2, none⟩ = some (.slice (A 0) (N 0).length (C 0)) ∧ V.cell? ⟨w.heap.size, 3, none⟩ = some (.slice (A 1) (N 1).length (C 1)) ∧ V.cell? ⟨w.heap.size, 4, none⟩ = some (.slice (A 2) (N 2).length (C 2)) ∧ V.cell? ⟨w.heap.size, 5, none⟩ = some (.slice (A 3) (N 3).length (C 3)) ∧ V.cell? ⟨w.heap.size, 6, none⟩ = some (.slice (A 4) (N 4).length (C 4)) ∧ V.cell? ⟨w.heap.size, 7, none⟩ = some (.slice (some ad) 1 c5) ∧ V.cell? ⟨w.heap.size, 8, none⟩ = some (.slice A6 won.length c6) ∧ V.cell? ⟨z5, 0, none⟩ = some (.int .i64 x.dir) ∧ V.cell? ⟨z5, 1, none⟩ = some (.string (bA x.name)) ∧ V.cell? ⟨z5, 2, none⟩ = some (.int .i64 x.node) from fun V hv =>
    have h := HK1.out.below (bt hv hb5)
    have g := hk5.below hv
    ⟨h.cell 0, h.cell 1, h.cell 2, h.cell 3, h.cell 4, h.cell 5, h.cell 6, h.cell 7, h.cell 8, g.cell 0, g.cell 1, g.cell 2⟩)
  have HPX := Lib.hid (show ∀ (V : World) (u0 u1 u2 u3 u4 u5 u6 : Value), Below W5.heap.size W5 V → (((((((V.setCell ⟨z2, 0, none⟩ u0).setCell ⟨z2, 1, none⟩ u1).setCell ⟨z2, 2, none⟩ u2).setCell ⟨z2, 3, none⟩ u3).setCell ⟨z2, 4, none⟩ u4).setCell ⟨z2, 5, none⟩ u5).setCell ⟨z2, 6, none⟩ u6).cell? ⟨w.heap.size, 0, none⟩ = some vb ∧ (((((((V.setCell ⟨z2, 0, none⟩ u0).setCell ⟨z2, 1, none⟩ u1).setCell ⟨z2, 2, none⟩ u2).setCell ⟨z2, 3, none⟩ u3).setCell ⟨z2, 4, none⟩ u4).setCell ⟨z2, 5, none⟩ u5).setCell ⟨z2, 6, none⟩ u6).cell? ⟨w.heap.size, 1, none⟩ = some va ∧ (((((((V.setCell ⟨z2, 0, none⟩ u0).setCell ⟨z2, 1, none⟩ u1).setCell ⟨z2, 2, none⟩ u2).setCell ⟨z2, 3, none⟩ u3).setCell ⟨z2, 4, none⟩ u4).setCell ⟨z2, 5, none⟩ u5).setCell ⟨z2, 6, none⟩ u6).cell? ⟨w.heap.size, 2, none⟩ = some (.slice (A 0) (N 0).length (C 0)) ∧ (((((((V.setCell ⟨z2, 0, none⟩ u0).setCell ⟨z2, 1, none⟩ u1).setCell ⟨z2, 2, none⟩ u2).setCell ⟨z2, 3, none⟩ u3).setCell ⟨z2, 4, none⟩ u4).setCell ⟨z2, 5, none⟩ u5).setCell ⟨z2, 6, none⟩ u6).cell? ⟨w.heap.size, 3, none⟩ = some (.slice (A 1) (N 1).length (C 1)) ∧ (((((((V.setCell ⟨z2, 0, none⟩ u0).setCell ⟨z2, 1, none⟩ u1).setCell ⟨z2, 2, none⟩ u2).setCell ⟨z2, 3, none⟩ u3).setCell ⟨z2, 4, none⟩ u4).setCell ⟨z2, 5, none⟩ u5).setCell ⟨z2, 6, none⟩ u6).cell? ⟨w.heap.size, 4, none⟩ = some (.slice (A 2) (N 2).length (C 2)) ∧ (((((((V.setCell ⟨z2, 0, none⟩ u0).setCell ⟨z2, 1, none⟩ u1).setCell ⟨z2, 2, none⟩ u2).setCell ⟨z2, 3, none⟩ u3).setCell ⟨z2, 4, none⟩ u4).setCell ⟨z2, 5, none⟩ u5).setCell ⟨z2, 6, none⟩ u6).cell? ⟨w.heap.size, 5, none⟩ = some (.slice (A 3) (N 3).length (C 3)) ∧ (((((((V.setCell ⟨z2, 0, none⟩ u0).setCell ⟨z2, 1, none⟩ u1).setCell ⟨z2, 2, none⟩ u2).setCell ⟨z2, 3, none⟩ u3).setCell ⟨z2, 4, none⟩ u4).setCell ⟨z2, 5, none⟩ u5).setCell ⟨z2, 6, none⟩ u6).cell? ⟨w.heap.size, 6, none⟩ = some (.slice (A 4) (N 4).length (C 4)) ∧ (((((((V.setCell ⟨z2, 0, none⟩ u0).setCell ⟨z2, 1, none⟩ u1).setCell ⟨z2, 2, none⟩ u2).setCell ⟨z2, 3, none⟩ u3).setCell ⟨z2, 4, none⟩ u4).setCell ⟨z2, 5, none⟩ u5).setCell ⟨z2, 6, none⟩ u6).cell? ⟨w.heap.size, 7, none⟩ = some (.slice (some ad) 1 c5) ∧ (((((((V.setCell ⟨z2, 0, none⟩ u0).setCell ⟨z2, 1, none⟩ u1).setCell ⟨z2, 2, none⟩ u2).setCell ⟨z2, 3, none⟩ u3).setCell ⟨z2, 4, none⟩ u4).setCell ⟨z2, 5, none⟩ u5).setCell ⟨z2, 6, none⟩ u6).cell? ⟨w.heap.size, 8, none⟩ = some (.slice A6 won.length c6) ∧ (((((((V.setCell ⟨z2, 0, none⟩ u0).setCell ⟨z2, 1, none⟩ u1).setCell ⟨z2, 2, none⟩ u2).setCell ⟨z2, 3, none⟩ u3).setCell ⟨z2, 4, none⟩ u4).setCell ⟨z2, 5, none⟩ u5).setCell ⟨z2, 6, none⟩ u6).cell? ⟨z5, 0, none⟩ = some (.int .i64 x.dir) ∧ (((((((V.setCell ⟨z2, 0, none⟩ u0).setCell ⟨z2, 1, none⟩ u1).setCell ⟨z2, 2, none⟩ u2).setCell ⟨z2, 3, none⟩ u3).setCell ⟨z2, 4, none⟩ u4).setCell ⟨z2, 5, none⟩ u5).setCell ⟨z2, 6, none⟩ u6).cell? ⟨z5, 1, none⟩ = some (.string (bA x.name)) ∧ (((((((V.setCell ⟨z2, 0, none⟩ u0).setCell ⟨z2, 1, none⟩ u1).setCell ⟨z2, 2, none⟩ u2).setCell ⟨z2, 3, none⟩ u3).setCell ⟨z2, 4, none⟩ u4).setCell ⟨z2, 5, none⟩ u5).setCell ⟨z2, 6, none⟩ u6).cell? ⟨z5, 2, none⟩ = some (.int .i64 x.node) from fun V u0 u1 u2 u3 u4 u5 u6 hv =>
    have hgr := grown7 V z2 u0 u1 u2 u3 u4 u5 u6
    have h := (HK1.out.below (bt hv hb5)).kept hgr (some_ne HZ.out.2)
    have g := (hk5.below hv).kept hgr (some_ne h52)
    ⟨h.cell 0, h.cell 1, h.cell 2, h.cell 3, h.cell 4, h.cell 5, h.cell 6, h.cell 7, h.cell 8, g.cell 0, g.cell 1, g.cell 2⟩)
  have HK2B := Lib.hid (fun (V : World) (hv : Below W5.heap.size W5 V) => HK2.out.below (bt hv hb5))
  have HBE := Lib.hid (fun (V : World) (hv : Below W5.heap.size W5 V) => below_grown (bt (bt hv hb5) HB.out) (grown7 V z2 (.int .i64 4) (.int .i64 x.node) (.int .i64 x.dir) (.string (bA x.name)) (.int .i64 0) (.string ⟨#[]⟩) (.int .i64 0)) HZ.out.1)
  have j0 := Lib.hid (show Below W5.heap.size W5 W5.drew from (Below.refl _ _).drew)
  clear hb5 hk5 HD HK1 HK2
  unfold dfV dfC at HGB
  simp only [hln] at HGB
  go_region_held3 (fun V => V.cell? ⟨w.heap.size, 0, none⟩ = some vb ∧ V.cell? ⟨w.heap.size, 1, none⟩ = some va ∧ V.cell? ⟨w.heap.size, 2, none⟩ = some (.slice (A 0) (N 0).length (C 0)) ∧ V.cell? ⟨w.heap.size, 3, none⟩ = some (.slice (A 1) (N 1).length (C 1)) ∧ V.cell? ⟨w.heap.size, 4, none⟩ = some (.slice (A 2) (N 2).length (C 2)) ∧ V.cell? ⟨w.heap.size, 5, none⟩ = some (.slice (A 3) (N 3).length (C 3)) ∧ V.cell? ⟨w.heap.size, 6, none⟩ = some (.slice (A 4) (N 4).length (C 4)) ∧ V.cell? ⟨w.heap.size, 7, none⟩ = some (.slice (some ad) 1 c5) ∧ V.cell? ⟨w.heap.size, 8, none⟩ = some (.slice A6 won.length c6) ∧ V.cell? ⟨z5, 0, none⟩ = some (.int .i64 x.dir) ∧ V.cell? ⟨z5, 1, none⟩ = some (.string (bA x.name)) ∧ V.cell? ⟨z5, 2, none⟩ = some (.int .i64 x.node))
    (first | (with_reducible exact HPR.out _ j0.out) | (with_reducible exact HPR.out _ j1.out) | (with_reducible exact HPX.out _ _ _ _ _ _ _ _ j1.out))
    (first
    | (go_at_call 61; (with_reducible refine (HGB.out _ j0.out).mono ?_); rintro e2 w7 ⟨rfl, hb7⟩; have j1 := Lib.hid (bt hb7 j0.out); have hk2' := HK2B.out w7 j1.out; obtain ⟨p0, p1, p2, p3, p4, p5, p6⟩ := hk2'.c7; obtain ⟨f0, f1, f2, f3, f4, f5, f6⟩ := hk2'.f7; obtain ⟨s0, s1, s2, s3, s4, s5, s6⟩ := hk2'.s7; clear hb7 hk2'))
  all_goals (
    go_wp2
    exact bodyPost_ret (v := .tuple #[.agg #[.int .i64 4, .int .i64 x.node, .int .i64 x.dir, .string (bA x.name), .int .i64 0, .string ⟨#[]⟩, .int .i64 0], .bool (!gbB (N 2) x.node)]) (by simp [results, Tryz.results34, go_sem, s0, s1, s2, s3, s4, s5, s6]) rfl ⟨by rw [HQ2.out]; rfl, HBE.out _ j1.out⟩)
end
end Go.Proofs.YtnkjaocmfhjnoaaGreat
namespace Go.Proofs.YtnkjaocmfhjnoaaGreat
open Go Go.RowKit
set_option maxRecDepth 100000

attribute [local go_sem] cell_off4 cell_blk4
theorem mvF_app {w : Ech} : ∀ (a : List Ech) (c : Chg) (b : List Ech), mvF w c (a ++ b) = (mvF w c a).bind (fun c' => mvF w c' b)
  | [], c, b => rfl
  | e :: a, c, b => by
    show (mvS w c e).bind (fun c' => mvF w c' (a ++ b)) = ((mvS w c e).bind (fun c' => mvF w c' a)).bind (fun c' => mvF w c' b)
    cases mvS w c e with
    | none => rfl
    | some c' => exact mvF_app a c' b
theorem mvF_next {w : Ech} {c c' c2 : Chg} {l : List Ech} {k : Nat} {e : Ech} (h : mvF w c (l.take k) = some c') (he : l[k]? = some e) (h2 : mvS w c' e = some c2) : mvF w c (l.take (k + 1)) = some c2 := by
  rw [take_snoc' he, mvF_app, h]
  show (mvS w c' e).bind (fun c' => some c') = some c2
  rw [h2]
  rfl
theorem mvF_stop {w : Ech} {c c' : Chg} {l : List Ech} {k : Nat} {e : Ech} (h : mvF w c (l.take k) = some c') (he : l[k]? = some e) (h2 : mvS w c' e = none) : mvF w c l = none := by
  have h1 : l = l.take k ++ e :: l.drop (k + 1) := by
    obtain ⟨h3, h4⟩ := List.getElem?_eq_some_iff.1 he
    rw [← h4, ← List.drop_eq_getElem_cons h3, List.take_append_drop]
  rw [h1, mvF_app, h]
  show (mvS w c' e).bind (fun c' => mvF w c' (l.drop (k + 1))) = none
  rw [h2]
  rfl
section
variable {w : World} {vb va : Value} {A : Nat → Option Addr} {C : Nat → Nat} {N : Nat → List Int} {A5 : Option Addr} {c5 : Nat} {lost : List Ech} {A6 : Option Addr} {c6 : Nat} {won : List Ech} {t u : List Nd}
set_option maxHeartbeats 16000000 in
theorem move_any (w : World) (h : DfR w vb va A C N A5 c5 lost A6 c6 won t u) :
    Calls Tryz.prog 35 #[dfV vb va A C N A5 c5 lost A6 c6 won] w (KdA w (movP (N 1) (N 2) (N 4) lost won)) := by
  obtain ⟨W1, hW1⟩ : ∃ W, (w.alloc (.cells (dfC vb va A C N A5 c5 lost A6 c6 won) 87)).alloc (.cells chZ 36) = W := ⟨_, rfl⟩
  have hb1 : Below w.heap.size w W1 := by rw [← hW1]; exact al (ba _ _) _
  have hk1 : Blk W1 w.heap.size 87 (dfC vb va A C N A5 c5 lost A6 c6 won) := by rw [← hW1]; exact (Blk.new _ _ _).alloc _
  obtain ⟨z2, hz2⟩ : ∃ z, w.heap.size + 1 = z := ⟨_, rfl⟩
  have hk2 : Blk W1 z2 36 chZ := by
    have h1 := Blk.new (w.alloc (.cells (dfC vb va A C N A5 c5 lost A6 c6 won) 87)) 36 chZ
    rw [← hW1, ← hz2]
    simpa using h1
  have HZ := Lib.hid (show w.heap.size ≤ z2 ∧ w.heap.size ≠ z2 from ⟨by omega, by omega⟩)
  have HD := Lib.hid (h.below hb1)
  have HB := Lib.hid hb1
  have HK1 := Lib.hid hk1
  have HK2 := Lib.hid hk2
  obtain ⟨x0, x1, x2, x3, x4, x5, x6, x7, x8⟩ := hk1.c9
  clear h hb1 hk1 hk2
  have HNO := Lib.hid (fun W => noth_lit (C := C) (A := A) (N := N) (vb := vb) (va := va) (A5 := A5) (c5 := c5) (lost := lost) (A6 := A6) (c6 := c6) (won := won) [1, 4] (by decide) (by decide) W)
  have HQ := Lib.hid (show toB (N 1 = [] ∧ N 4 = []) = [1, 4].all (fun f => (N f).isEmpty) from nothB2 N)
  generalize [1, 4].all (fun f => (N f).isEmpty) = q at HNO HQ
  go_enter Tryz.func35, Tryz.ntmps35
  go_wp2_with fail
  clear hz2
  refine (HNO.out W1).mono ?_
  rintro e w3 ⟨rfl, hb4⟩
  clear hW1
  have HB4 := Lib.hid hb4
  obtain ⟨x0, x1, x2, x3, x4, x5, x6, x7, x8⟩ := (HK1.out.below hb4).c9
  clear HNO
  cases q
  · have HQ2 := Lib.hid (show movP (N 1) (N 2) (N 4) lost won = (Chg.zero, false) from if_pos (.inl (fun z => by have := HQ.out; rw [toB_true z] at this; cases this)))
    clear x0 x1 x2 x3 x4 x5 x6 x7 x8
    have hk2' := HK2.out.below hb4
    obtain ⟨p0, p1, p2, p3, p4, p5, p6⟩ := hk2'.c7
    obtain ⟨f0, f1, f2, f3, f4, f5, f6⟩ := hk2'.f7
    obtain ⟨s0, s1, s2, s3, s4, s5, s6⟩ := hk2'.s7
    have HBZ := Lib.hid (below_grown (bt hb4 HB.out) (grown7 w3 z2 (.int .i64 0) (.int .i64 0) (.int .i64 0) (.string ⟨#[]⟩) (.int .i64 0) (.string ⟨#[]⟩) (.int .i64 0)) HZ.out.1)
    clear hk2' hb4
    go_wp2
    refine bodyPost_ret (v := .tuple #[.agg #[.int .i64 0, .int .i64 0, .int .i64 0, .string ⟨#[]⟩, .int .i64 0, .string ⟨#[]⟩, .int .i64 0], .bool false]) (by simp [results, Tryz.results35, go_sem, s0, s1, s2, s3, s4, s5, s6]) rfl ?_
    exact ⟨by rw [HQ2.out]; rfl, HBZ.out⟩
  have HNN := Lib.hid (show N 1 = [] ∧ N 4 = [] from toB_iff.1 HQ.out)
  by_cases hl1 : won.length = 1
  case neg =>
    have HQ2 := Lib.hid (show movP (N 1) (N 2) (N 4) lost won = (Chg.zero, false) from if_pos (.inr hl1))
    have c2 : ((won.length : Int) != 1) = true := by
      rw [bne_iff_ne]
      omega
    clear hl1
    have hk2' := HK2.out.below hb4
    obtain ⟨p0, p1, p2, p3, p4, p5, p6⟩ := hk2'.c7
    obtain ⟨f0, f1, f2, f3, f4, f5, f6⟩ := hk2'.f7
    obtain ⟨s0, s1, s2, s3, s4, s5, s6⟩ := hk2'.s7
    have HBZ := Lib.hid (below_grown (bt hb4 HB.out) (grown7 w3 z2 (.int .i64 0) (.int .i64 0) (.int .i64 0) (.string ⟨#[]⟩) (.int .i64 0) (.string ⟨#[]⟩) (.int .i64 0)) HZ.out.1)
    clear hk2' hb4
    go_wp2
    refine bodyPost_ret (v := .tuple #[.agg #[.int .i64 0, .int .i64 0, .int .i64 0, .string ⟨#[]⟩, .int .i64 0, .string ⟨#[]⟩, .int .i64 0], .bool false]) (by simp [results, Tryz.results35, go_sem, s0, s1, s2, s3, s4, s5, s6]) rfl ?_
    exact ⟨by rw [HQ2.out]; rfl, HBZ.out⟩
  have HE := Lib.hid (HD.out.wo.below hb4)
  obtain ⟨x, rfl⟩ := one_of hl1
  obtain ⟨ad, rfl, d0, d1, d2⟩ := ech_get HE.out (show [x][0]? = some x from rfl)
  simp only [Nat.zero_mul, add_none] at d0 d1 d2
  have c2 : ((([x] : List Ech).length : Int) != 1) = false := rfl
  obtain ⟨c0, hc0⟩ : ∃ c0 : Chg, ⟨5, x.node, 0, [], x.dir, x.name, 0⟩ = c0 := ⟨_, rfl⟩
  have HQ2 := Lib.hid (show movP (N 1) (N 2) (N 4) lost [x] = (match mvF x c0 lost with
    | none => (Chg.zero, false)
    | some c => (c, c.dir != 0 && !gbB (N 2) c.over)) by
    unfold movP
    rw [if_neg (fun z => by
      rcases z with z | z
      · exact z HNN.out
      · exact z rfl), ← hc0]
    rfl)
  have hln : ([x] : List Ech).length = 1 := rfl
  rw [hln] at x8
  clear hl1 HQ HE
  obtain ⟨z4, hz4⟩ : ∃ z, w3.heap.size = z := ⟨_, rfl⟩
  have hb5 := bt (ba w3 (.cells #[.int .i64 x.dir, .string (bA x.name), .int .i64 x.node] 131)) hb4
  have hk4 := Blk.new w3 131 #[.int .i64 x.dir, .string (bA x.name), .int .i64 x.node]
  have h24 : z2 < z4 := by have := (HK2.out.below hb4).lt; omega
  have hl4 : W1.heap.size ≤ z4 := by have := hb4.size; omega
  obtain ⟨W5, hW5⟩ : ∃ W, w3.alloc (.cells #[.int .i64 x.dir, .string (bA x.name), .int .i64 x.node] 131) = W := ⟨_, rfl⟩
  rw [hz4] at hk4
  have hz5 : W5.heap.size = z4 + 1 := by rw [← hW5, ← hz4]; simp
  rw [hW5] at hb5 hk4
  go_upto_region 4 with fail
  clear hW5 hz4 d0 d1 d2 hb4
  obtain ⟨k0, k1, k2⟩ := hk4.c3
  have HK4 := Lib.hid hk4
  obtain ⟨z5, hz5'⟩ : ∃ z, W5.heap.size = z := ⟨_, rfl⟩
  have h45 : z4 < z5 := by omega
  have hb6 := bt (ba W5 (.cells #[.int .i64 5, .int .i64 x.node, .int .i64 0, .string ⟨#[]⟩, .int .i64 x.dir, .string (bA x.name), .int .i64 0] 36)) hb5
  have hk5 : Blk (W5.alloc (.cells #[.int .i64 5, .int .i64 x.node, .int .i64 0, .string ⟨#[]⟩, .int .i64 x.dir, .string (bA x.name), .int .i64 0] 36)) W5.heap.size 36 (chC ⟨5, x.node, 0, [], x.dir, x.name, 0⟩) := Blk.new W5 36 #[.int .i64 5, .int .i64 x.node, .int .i64 0, .string ⟨#[]⟩, .int .i64 x.dir, .string (bA x.name), .int .i64 0]
  have hk4' := hk4.below (ba W5 (.cells #[.int .i64 5, .int .i64 x.node, .int .i64 0, .string ⟨#[]⟩, .int .i64 x.dir, .string (bA x.name), .int .i64 0] 36))
  obtain ⟨x0, x1, x2, x3, x4, x5, x6, x7, x8⟩ := (HK1.out.below hb5).c9
  clear hz5
  go_upto_region 5 with fail
  obtain ⟨W6, hW6⟩ : ∃ W, W5.alloc (.cells #[.int .i64 5, .int .i64 x.node, .int .i64 0, .string ⟨#[]⟩, .int .i64 x.dir, .string (bA x.name), .int .i64 0] 36) = W := ⟨_, rfl⟩
  rw [hz5'] at hk5
  rw [hW6, hc0] at hk5
  rw [hW6] at hb6 hk4' ⊢
  clear hW6 hz5' k0 k1 k2 x0 x1 x2 x3 x4 x5 x6 x7 x8 hb5 hk4 HK4
  have HK4 := Lib.hid hk4'
  have HK5 := Lib.hid hk5
  have HB6 := Lib.hid hb6
  obtain ⟨x0, x1, x2, x3, x4, x5, x6, x7, x8⟩ := (HK1.out.below hb6).c9
  have hl1000 := HD.out.flo
  clear hk4' hk5 hb6 hc0
  go_wp2
  clear x0 x1 x2 x3 x4 x5 x6 x7 x8
  go_loopg [35] lost.length (fun gh s35 wr => ∃ (k : Nat) (c : Chg), s35 = .int .i64 k ∧ k ≤ lost.length ∧ gh = lost.length - k ∧ mvF x c0 (lost.take k) = some c ∧ Blk wr z5 36 (chC c) ∧ W6.grownBy wr (some z5))
  case atStart => exact ⟨0, c0, rfl, Nat.zero_le _, rfl, rfl, HK5.out, ⟨rfl, rfl, rfl, Nat.le_refl _, fun _ _ _ => rfl⟩⟩
  case round =>
    obtain ⟨k, c, rfl, hk, rfl, hm, hk5, hgr⟩ := hrel
    have HM := Lib.hid hm
    have HC5 := Lib.hid hk5
    have HG6 := Lib.hid hgr
    have HBW := Lib.hid (show Below W1.heap.size W1 wr from below_grown HB6.out hgr (by omega))
    clear hm hk5 hgr HK5
    by_cases hlt : k < lost.length
    · have hlt' : (k : Int) < (lost.length : Int) := by omega
      obtain ⟨y, hy⟩ : ∃ y, lost[k]? = some y := ⟨_, List.getElem?_eq_getElem hlt⟩
      have HY := Lib.hid hy
      obtain ⟨ad2, hA5, d0, d1, d2⟩ := ech_get (HD.out.lo.below HBW.out) hy
      obtain ⟨z7, hz7⟩ : ∃ z, wr.heap.size = z := ⟨_, rfl⟩
      have hb7 := ba wr (.cells #[.int .i64 y.dir, .string (bA y.name), .int .i64 y.node] 131)
      have hk7 := Blk.new wr 131 #[.int .i64 y.dir, .string (bA y.name), .int .i64 y.node]
      have h57 : z5 < z7 := by have := HC5.out.lt; omega
      obtain ⟨W7, hW7⟩ : ∃ W, wr.alloc (.cells #[.int .i64 y.dir, .string (bA y.name), .int .i64 y.node] 131) = W := ⟨_, rfl⟩
      rw [hz7] at hk7
      rw [hW7] at hb7 hk7
      have hk5' := HC5.out.below hb7
      have hk4' := (HK4.out.kept HG6.out (some_ne (show z4 ≠ z5 by omega))).below hb7
      have hb7w := bt hb7 HBW.out
      have hk2' := HK2.out.below hb7w
      have HG7 := Lib.hid (grown_trans HG6.out (grown_below hb7 (some z5)))
      have HC7 := Lib.hid hk5'
      have HB7 := Lib.hid (bt hb7w HB.out)
      obtain ⟨n0, n1, n2⟩ := hk7.c3
      obtain ⟨m0, m1, m2⟩ := hk4'.c3
      obtain ⟨p0, p1, p2, p3, p4, p5, p6⟩ := hk5'.c7
      obtain ⟨f0, f1, f2, f3, f4, f5, f6⟩ := hk5'.f7
      subst hA5
      clear hy hb7 hk7 hk5' hk4' hb7w
      go_upto_region 9 with fail
      clear hW7 d0 d1 d2 hz7
      by_cases ha : y.dir = x.dir
      · by_cases hb : y.name = x.name
        · have HN := Lib.hid (mvF_next HM.out HY.out (show mvS x c y = some { c with over := y.node } from if_pos ⟨ha, hb⟩))
          have HX := Lib.hid (And.intro (HC7.out.set7_6 (.int .i64 y.node)) (grown_trans HG7.out (grown_setCell W7 ⟨z5, 6, none⟩ (.int .i64 y.node))))
          have a1 : (y.dir == x.dir) = true := by simpa using ha
          have a2 : ((bA y.name).toList == (bA x.name).toList) = true := by rw [hb]; simp
          clear ha hb hk2'
          go_wp2
          go_roundg (lost.length - (k + 1))
          case measure => omega
          case rel => exact ⟨k + 1, _, by go_num, by omega, rfl, HN.out, HX.out.1, HX.out.2⟩
        · have hna : ¬ (y.dir = x.dir ∧ y.name = x.name) := fun z => hb z.2
          have a1 : (y.dir == x.dir) = true := by simpa using ha
          have a2 : ((bA y.name).toList == (bA x.name).toList) = false := by
            rw [beq_eq_false_iff_ne, bA_list, bA_list]
            exact hb
          by_cases hc : y.node = x.node
          · by_cases he : c.dir = 0
            · have HN := Lib.hid (mvF_next HM.out HY.out (show mvS x c y = some { c with dir := y.dir, name := y.name } by unfold mvS; rw [if_neg hna, if_pos ⟨hc, he⟩]))
              have HX := Lib.hid (And.intro (((HC7.out.set7_2 (.int .i64 y.dir)).set7_3 (.string (bA y.name))).below (Below.refl _ _).drew) (grown_trans HG7.out (grown_trans (grown_trans (grown_setCell W7 ⟨z5, 2, none⟩ (.int .i64 y.dir)) (grown_setCell _ ⟨z5, 3, none⟩ (.string (bA y.name)))) (grown_drew _ (some z5)))))
              have a3 : (y.node == x.node) = true := by simpa using hc
              have a4 : (c.dir == 0) = true := by simpa using he
              clear hc he hna hk2' ha hb
              go_wp2
              go_region
              go_wp2
              go_roundg (lost.length - (k + 1))
              case measure => omega
              case rel => exact ⟨k + 1, _, by go_num, by omega, rfl, HN.out, HX.out.1, HX.out.2⟩
            · have HN := Lib.hid (mvF_stop HM.out HY.out (show mvS x c y = none by unfold mvS; rw [if_neg hna, if_neg (fun z => he z.2)]))
              have HQ3 := Lib.hid (show movP (N 1) (N 2) (N 4) lost [x] = (Chg.zero, false) by rw [HQ2.out, HN.out])
              have a3 : (y.node == x.node) = true := by simpa using hc
              have a4 : (c.dir == 0) = false := by simpa using he
              clear hc he hna ha hb
              obtain ⟨r0, r1, r2, r3, r4, r5, r6⟩ := hk2'.c7
              obtain ⟨e0, e1, e2, e3, e4, e5, e6⟩ := hk2'.f7
              obtain ⟨s0, s1, s2, s3, s4, s5, s6⟩ := hk2'.s7
              have HBZ := Lib.hid (below_grown HB7.out (grown7 W7 z2 (.int .i64 0) (.int .i64 0) (.int .i64 0) (.string ⟨#[]⟩) (.int .i64 0) (.string ⟨#[]⟩) (.int .i64 0)) HZ.out.1)
              clear hk2'
              go_wp2
              exact bodyPost_ret (v := .tuple #[.agg #[.int .i64 0, .int .i64 0, .int .i64 0, .string ⟨#[]⟩, .int .i64 0, .string ⟨#[]⟩, .int .i64 0], .bool false]) (by simp [results, Tryz.results35, go_sem, s0, s1, s2, s3, s4, s5, s6]) rfl ⟨by rw [HQ3.out]; rfl, HBZ.out⟩
          · have HN := Lib.hid (mvF_stop HM.out HY.out (show mvS x c y = none by unfold mvS; rw [if_neg hna, if_neg (fun z => hc z.1)]))
            have HQ3 := Lib.hid (show movP (N 1) (N 2) (N 4) lost [x] = (Chg.zero, false) by rw [HQ2.out, HN.out])
            have a3 : (y.node == x.node) = false := by simpa using hc
            clear hc hna ha hb
            obtain ⟨r0, r1, r2, r3, r4, r5, r6⟩ := hk2'.c7
            obtain ⟨e0, e1, e2, e3, e4, e5, e6⟩ := hk2'.f7
            obtain ⟨s0, s1, s2, s3, s4, s5, s6⟩ := hk2'.s7
            have HBZ := Lib.hid (below_grown HB7.out (grown7 W7 z2 (.int .i64 0) (.int .i64 0) (.int .i64 0) (.string ⟨#[]⟩) (.int .i64 0) (.string ⟨#[]⟩) (.int .i64 0)) HZ.out.1)
            clear hk2'
            go_wp2
            exact bodyPost_ret (v := .tuple #[.agg #[.int .i64 0, .int .i64 0, .int .i64 0, .string ⟨#[]⟩, .int .i64 0, .string ⟨#[]⟩, .int .i64 0], .bool false]) (by simp [results, Tryz.results35, go_sem, s0, s1, s2, s3, s4, s5, s6]) rfl ⟨by rw [HQ3.out]; rfl, HBZ.out⟩
      · have hna : ¬ (y.dir = x.dir ∧ y.name = x.name) := fun z => ha z.1
        have a1 : (y.dir == x.dir) = false := by simpa using ha
        by_cases hc : y.node = x.node
        · by_cases he : c.dir = 0
          · have HN := Lib.hid (mvF_next HM.out HY.out (show mvS x c y = some { c with dir := y.dir, name := y.name } by unfold mvS; rw [if_neg hna, if_pos ⟨hc, he⟩]))
            have HX := Lib.hid (And.intro (((HC7.out.set7_2 (.int .i64 y.dir)).set7_3 (.string (bA y.name))).below (Below.refl _ _).drew) (grown_trans HG7.out (grown_trans (grown_trans (grown_setCell W7 ⟨z5, 2, none⟩ (.int .i64 y.dir)) (grown_setCell _ ⟨z5, 3, none⟩ (.string (bA y.name)))) (grown_drew _ (some z5)))))
            have a3 : (y.node == x.node) = true := by simpa using hc
            have a4 : (c.dir == 0) = true := by simpa using he
            clear hc he hna hk2' ha
            go_wp2
            go_region
            go_wp2
            go_roundg (lost.length - (k + 1))
            case measure => omega
            case rel => exact ⟨k + 1, _, by go_num, by omega, rfl, HN.out, HX.out.1, HX.out.2⟩
          · have HN := Lib.hid (mvF_stop HM.out HY.out (show mvS x c y = none by unfold mvS; rw [if_neg hna, if_neg (fun z => he z.2)]))
            have HQ3 := Lib.hid (show movP (N 1) (N 2) (N 4) lost [x] = (Chg.zero, false) by rw [HQ2.out, HN.out])
            have a3 : (y.node == x.node) = true := by simpa using hc
            have a4 : (c.dir == 0) = false := by simpa using he
            clear hc he hna ha
            obtain ⟨r0, r1, r2, r3, r4, r5, r6⟩ := hk2'.c7
            obtain ⟨e0, e1, e2, e3, e4, e5, e6⟩ := hk2'.f7
            obtain ⟨s0, s1, s2, s3, s4, s5, s6⟩ := hk2'.s7
            have HBZ := Lib.hid (below_grown HB7.out (grown7 W7 z2 (.int .i64 0) (.int .i64 0) (.int .i64 0) (.string ⟨#[]⟩) (.int .i64 0) (.string ⟨#[]⟩) (.int .i64 0)) HZ.out.1)
            clear hk2'
            go_wp2
            exact bodyPost_ret (v := .tuple #[.agg #[.int .i64 0, .int .i64 0, .int .i64 0, .string ⟨#[]⟩, .int .i64 0, .string ⟨#[]⟩, .int .i64 0], .bool false]) (by simp [results, Tryz.results35, go_sem, s0, s1, s2, s3, s4, s5, s6]) rfl ⟨by rw [HQ3.out]; rfl, HBZ.out⟩
        · have HN := Lib.hid (mvF_stop HM.out HY.out (show mvS x c y = none by unfold mvS; rw [if_neg hna, if_neg (fun z => hc z.1)]))
          have HQ3 := Lib.hid (show movP (N 1) (N 2) (N 4) lost [x] = (Chg.zero, false) by rw [HQ2.out, HN.out])
          have a3 : (y.node == x.node) = false := by simpa using hc
          clear hc hna ha
          obtain ⟨r0, r1, r2, r3, r4, r5, r6⟩ := hk2'.c7
          obtain ⟨e0, e1, e2, e3, e4, e5, e6⟩ := hk2'.f7
          obtain ⟨s0, s1, s2, s3, s4, s5, s6⟩ := hk2'.s7
          have HBZ := Lib.hid (below_grown HB7.out (grown7 W7 z2 (.int .i64 0) (.int .i64 0) (.int .i64 0) (.string ⟨#[]⟩) (.int .i64 0) (.string ⟨#[]⟩) (.int .i64 0)) HZ.out.1)
          clear hk2'
          go_wp2
          exact bodyPost_ret (v := .tuple #[.agg #[.int .i64 0, .int .i64 0, .int .i64 0, .string ⟨#[]⟩, .int .i64 0, .string ⟨#[]⟩, .int .i64 0], .bool false]) (by simp [results, Tryz.results35, go_sem, s0, s1, s2, s3, s4, s5, s6]) rfl ⟨by rw [HQ3.out]; rfl, HBZ.out⟩
    · have hlt' : ¬ (k : Int) < (lost.length : Int) := by omega
      have HQ3 := Lib.hid (show movP (N 1) (N 2) (N 4) lost [x] = (c, c.dir != 0 && !gbB (N 2) c.over) by
        have h := HM.out
        rw [List.take_of_length_le (by omega)] at h
        rw [HQ2.out, h])
      have h25 : z2 ≠ z5 := by omega
      have h52 : z5 ≠ z2 := by omega
      by_cases hd0 : c.dir = 0
      · have e1 : (c.dir != 0) = false := by simpa using hd0
        have HQ4 := Lib.hid (show movP (N 1) (N 2) (N 4) lost [x] = (c, false) by rw [HQ3.out, e1]; rfl)
        obtain ⟨p0, p1, p2, p3, p4, p5, p6⟩ := HC5.out.c7
        have hk2' := HK2.out.below HBW.out
        obtain ⟨r0, r1, r2, r3, r4, r5, r6⟩ := hk2'.c7
        obtain ⟨e0, e1', e2, e3, e4, e5, e6⟩ := hk2'.f7
        obtain ⟨s0, s1, s2, s3, s4, s5, s6⟩ := hk2'.s7
        have HBZ := Lib.hid (below_grown (bt HBW.out HB.out) (grown_ch wr z2 c) HZ.out.1)
        clear hd0 hk2'
        go_wp2
        go_region
        go_wp2
        exact bodyPost_ret (v := .tuple #[.agg (chC c), .bool false]) (by simp [results, Tryz.results35, go_sem, s0, s1, s2, s3, s4, s5, s6]) rfl ⟨by rw [HQ4.out], HBZ.out.drew⟩
      · have e1 : (c.dir != 0) = true := by simpa using hd0
        have HQ4 := Lib.hid (show movP (N 1) (N 2) (N 4) lost [x] = (c, !gbB (N 2) c.over) by rw [HQ3.out, e1]; rfl)
        have HGB := Lib.hid (fun (V : World) (hv : Below wr.heap.size wr V) => goneBut_any c.over V (HD.out.below (bt hv HBW.out)))
        have HPR := Lib.hid (show ∀ V : World, Below wr.heap.size wr V → V.cell? ⟨w.heap.size, 0, none⟩ = some vb ∧ V.cell? ⟨w.heap.size, 1, none⟩ = some va ∧ V.cell? ⟨w.heap.size, 2, none⟩ = some (.slice (A 0) (N 0).length (C 0)) ∧ V.cell? ⟨w.heap.size, 3, none⟩ = some (.slice (A 1) (N 1).length (C 1)) ∧ V.cell? ⟨w.heap.size, 4, none⟩ = some (.slice (A 2) (N 2).length (C 2)) ∧ V.cell? ⟨w.heap.size, 5, none⟩ = some (.slice (A 3) (N 3).length (C 3)) ∧ V.cell? ⟨w.heap.size, 6, none⟩ = some (.slice (A 4) (N 4).length (C 4)) ∧ V.cell? ⟨w.heap.size, 7, none⟩ = some (.slice A5 lost.length c5) ∧ V.cell? ⟨w.heap.size, 8, none⟩ = some (.slice (some ad) 1 c6) ∧ V.cell? ⟨z5, 0, none⟩ = some (.int .i64 c.kind) ∧ V.cell? ⟨z5, 1, none⟩ = some (.int .i64 c.node) ∧ V.cell? ⟨z5, 2, none⟩ = some (.int .i64 c.dir) ∧ V.cell? ⟨z5, 3, none⟩ = some (.string (bA c.name)) ∧ V.cell? ⟨z5, 4, none⟩ = some (.int .i64 c.to) ∧ V.cell? ⟨z5, 5, none⟩ = some (.string (bA c.other)) ∧ V.cell? ⟨z5, 6, none⟩ = some (.int .i64 c.over) from fun V hv =>
          have h := HK1.out.below (bt hv HBW.out)
          have g := HC5.out.below hv
          ⟨h.cell 0, h.cell 1, h.cell 2, h.cell 3, h.cell 4, h.cell 5, h.cell 6, h.cell 7, h.cell 8, g.cell 0, g.cell 1, g.cell 2, g.cell 3, g.cell 4, g.cell 5, g.cell 6⟩)
        have HPX := Lib.hid (show ∀ (V : World) (u0 u1 u2 u3 u4 u5 u6 : Value), Below wr.heap.size wr V → (((((((V.setCell ⟨z2, 0, none⟩ u0).setCell ⟨z2, 1, none⟩ u1).setCell ⟨z2, 2, none⟩ u2).setCell ⟨z2, 3, none⟩ u3).setCell ⟨z2, 4, none⟩ u4).setCell ⟨z2, 5, none⟩ u5).setCell ⟨z2, 6, none⟩ u6).cell? ⟨w.heap.size, 0, none⟩ = some vb ∧ (((((((V.setCell ⟨z2, 0, none⟩ u0).setCell ⟨z2, 1, none⟩ u1).setCell ⟨z2, 2, none⟩ u2).setCell ⟨z2, 3, none⟩ u3).setCell ⟨z2, 4, none⟩ u4).setCell ⟨z2, 5, none⟩ u5).setCell ⟨z2, 6, none⟩ u6).cell? ⟨w.heap.size, 1, none⟩ = some va ∧ (((((((V.setCell ⟨z2, 0, none⟩ u0).setCell ⟨z2, 1, none⟩ u1).setCell ⟨z2, 2, none⟩ u2).setCell ⟨z2, 3, none⟩ u3).setCell ⟨z2, 4, none⟩ u4).setCell ⟨z2, 5, none⟩ u5).setCell ⟨z2, 6, none⟩ u6).cell? ⟨w.heap.size, 2, none⟩ = some (.slice (A 0) (N 0).length (C 0)) ∧ (((((((V.setCell ⟨z2, 0, none⟩ u0).setCell ⟨z2, 1, none⟩ u1).setCell ⟨z2, 2, none⟩ u2).setCell ⟨z2, 3, none⟩ u3).setCell ⟨z2, 4, none⟩ u4).setCell ⟨z2, 5, none⟩ u5).setCell ⟨z2, 6, none⟩ u6).cell? ⟨w.heap.size, 3, none⟩ = some (.slice (A 1) (N 1).length (C 1)) ∧ (((((((V.setCell ⟨z2, 0, none⟩ u0).setCell ⟨z2, 1, none⟩ u1).setCell ⟨z2, 2, none⟩ u2).setCell ⟨z2, 3, none⟩ u3).setCell ⟨z2, 4, none⟩ u4).setCell ⟨z2, 5, none⟩ u5).setCell ⟨z2, 6, none⟩ u6).cell? ⟨w.heap.size, 4, none⟩ = some (.slice (A 2) (N 2).length (C 2)) ∧ (((((((V.setCell ⟨z2, 0, none⟩ u0).setCell ⟨z2, 1, none⟩ u1).setCell ⟨z2, 2, none⟩ u2).setCell ⟨z2, 3, none⟩ u3).setCell ⟨z2, 4, none⟩ u4).setCell ⟨z2, 5, none⟩ u5).setCell ⟨z2, 6, none⟩ u6).cell? ⟨w.heap.size, 5, none⟩ = some (.slice (A 3) (N 3).length (C 3)) ∧ (((((((V.setCell ⟨z2, 0, none⟩ u0).setCell ⟨z2, 1, none⟩ u1).setCell ⟨z2, 2, none⟩ u2).setCell ⟨z2, 3, none⟩ u3).setCell ⟨z2, 4, none⟩ u4).setCell ⟨z2, 5, none⟩ u5).setCell ⟨z2, 6, none⟩ u6).cell? ⟨w.heap.size, 6, none⟩ = some (.slice (A 4) (N 4).length (C 4)) ∧ (((((((V.setCell ⟨z2, 0, none⟩ u0).setCell ⟨z2, 1, none⟩ u1).setCell ⟨z2, 2, none⟩ u2).setCell ⟨z2, 3, none⟩ u3).setCell ⟨z2, 4, none⟩ u4).setCell ⟨z2, 5, none⟩ u5).setCell ⟨z2, 6, none⟩ u6).cell? ⟨w.heap.size, 7, none⟩ = some (.slice A5 lost.length c5) ∧ (((((((V.setCell ⟨z2, 0, none⟩ u0).setCell ⟨z2, 1, none⟩ u1).setCell ⟨z2, 2, none⟩ u2).setCell ⟨z2, 3, none⟩ u3).setCell ⟨z2, 4, none⟩ u4).setCell ⟨z2, 5, none⟩ u5).setCell ⟨z2, 6, none⟩ u6).cell? ⟨w.heap.size, 8, none⟩ = some (.slice (some ad) 1 c6) ∧ (((((((V.setCell ⟨z2, 0, none⟩ u0).setCell ⟨z2, 1, none⟩ u1).setCell ⟨z2, 2, none⟩ u2).setCell ⟨z2, 3, none⟩ u3).setCell ⟨z2, 4, none⟩ u4).setCell ⟨z2, 5, none⟩ u5).setCell ⟨z2, 6, none⟩ u6).cell? ⟨z5, 0, none⟩ = some (.int .i64 c.kind) ∧ (((((((V.setCell ⟨z2, 0, none⟩ u0).setCell ⟨z2, 1, none⟩ u1).setCell ⟨z2, 2, none⟩ u2).setCell ⟨z2, 3, none⟩ u3).setCell ⟨z2, 4, none⟩ u4).setCell ⟨z2, 5, none⟩ u5).setCell ⟨z2, 6, none⟩ u6).cell? ⟨z5, 1, none⟩ = some (.int .i64 c.node) ∧ (((((((V.setCell ⟨z2, 0, none⟩ u0).setCell ⟨z2, 1, none⟩ u1).setCell ⟨z2, 2, none⟩ u2).setCell ⟨z2, 3, none⟩ u3).setCell ⟨z2, 4, none⟩ u4).setCell ⟨z2, 5, none⟩ u5).setCell ⟨z2, 6, none⟩ u6).cell? ⟨z5, 2, none⟩ = some (.int .i64 c.dir) ∧ (((((((V.setCell ⟨z2, 0, none⟩ u0).setCell ⟨z2, 1, none⟩ u1).setCell ⟨z2, 2, none⟩ u2).setCell ⟨z2, 3, none⟩ u3).setCell ⟨z2, 4, none⟩ u4).setCell ⟨z2, 5, none⟩ u5).setCell ⟨z2, 6, none⟩ u6).cell? ⟨z5, 3, none⟩ = some (.string (bA c.name)) ∧ (((((((V.setCell ⟨z2, 0, none⟩ u0).setCell ⟨z2, 1, none⟩ u1).setCell ⟨z2, 2, none⟩ u2).setCell ⟨z2, 3, none⟩ u3).setCell ⟨z2, 4, none⟩ u4).setCell ⟨z2, 5, none⟩ u5).setCell ⟨z2, 6, none⟩ u6).cell? ⟨z5, 4, none⟩ = some (.int .i64 c.to) ∧ (((((((V.setCell ⟨z2, 0, none⟩ u0).setCell ⟨z2, 1, none⟩ u1).setCell ⟨z2, 2, none⟩ u2).setCell ⟨z2, 3, none⟩ u3).setCell ⟨z2, 4, none⟩ u4).setCell ⟨z2, 5, none⟩ u5).setCell ⟨z2, 6, none⟩ u6).cell? ⟨z5, 5, none⟩ = some (.string (bA c.other)) ∧ (((((((V.setCell ⟨z2, 0, none⟩ u0).setCell ⟨z2, 1, none⟩ u1).setCell ⟨z2, 2, none⟩ u2).setCell ⟨z2, 3, none⟩ u3).setCell ⟨z2, 4, none⟩ u4).setCell ⟨z2, 5, none⟩ u5).setCell ⟨z2, 6, none⟩ u6).cell? ⟨z5, 6, none⟩ = some (.int .i64 c.over) from fun V u0 u1 u2 u3 u4 u5 u6 hv =>
          have hgx := grown7 V z2 u0 u1 u2 u3 u4 u5 u6
          have h := (HK1.out.below (bt hv HBW.out)).kept hgx (some_ne HZ.out.2)
          have g := (HC5.out.below hv).kept hgx (some_ne h52)
          ⟨h.cell 0, h.cell 1, h.cell 2, h.cell 3, h.cell 4, h.cell 5, h.cell 6, h.cell 7, h.cell 8, g.cell 0, g.cell 1, g.cell 2, g.cell 3, g.cell 4, g.cell 5, g.cell 6⟩)
        have HK2B := Lib.hid (fun (V : World) (hv : Below wr.heap.size wr V) => HK2.out.below (bt hv HBW.out))
        have HBE := Lib.hid (fun (V : World) (hv : Below wr.heap.size wr V) => below_grown (bt (bt hv HBW.out) HB.out) (grown_ch V z2 c) HZ.out.1)
        have j0 := Lib.hid (show Below wr.heap.size wr wr.drew from (Below.refl _ _).drew)
        clear hd0 HD HK1 HK2 HC5 HM HQ2 HQ3 HK4 HG6
        unfold dfV dfC at HGB
        simp only [hln] at HGB
        go_wp2
        go_region_held3 (fun V => V.cell? ⟨w.heap.size, 0, none⟩ = some vb ∧ V.cell? ⟨w.heap.size, 1, none⟩ = some va ∧ V.cell? ⟨w.heap.size, 2, none⟩ = some (.slice (A 0) (N 0).length (C 0)) ∧ V.cell? ⟨w.heap.size, 3, none⟩ = some (.slice (A 1) (N 1).length (C 1)) ∧ V.cell? ⟨w.heap.size, 4, none⟩ = some (.slice (A 2) (N 2).length (C 2)) ∧ V.cell? ⟨w.heap.size, 5, none⟩ = some (.slice (A 3) (N 3).length (C 3)) ∧ V.cell? ⟨w.heap.size, 6, none⟩ = some (.slice (A 4) (N 4).length (C 4)) ∧ V.cell? ⟨w.heap.size, 7, none⟩ = some (.slice A5 lost.length c5) ∧ V.cell? ⟨w.heap.size, 8, none⟩ = some (.slice (some ad) 1 c6) ∧ V.cell? ⟨z5, 0, none⟩ = some (.int .i64 c.kind) ∧ V.cell? ⟨z5, 1, none⟩ = some (.int .i64 c.node) ∧ V.cell? ⟨z5, 2, none⟩ = some (.int .i64 c.dir) ∧ V.cell? ⟨z5, 3, none⟩ = some (.string (bA c.name)) ∧ V.cell? ⟨z5, 4, none⟩ = some (.int .i64 c.to) ∧ V.cell? ⟨z5, 5, none⟩ = some (.string (bA c.other)) ∧ V.cell? ⟨z5, 6, none⟩ = some (.int .i64 c.over))
          (first | (with_reducible exact HPR.out _ j0.out) | (with_reducible exact HPR.out _ j1.out) | (with_reducible exact HPX.out _ _ _ _ _ _ _ _ j1.out))
          (first
          | (go_at_call 61; (with_reducible refine (HGB.out _ j0.out).mono ?_); rintro e2 w7 ⟨rfl, hb7⟩; have j1 := Lib.hid (bt hb7 j0.out); have hk2' := HK2B.out w7 j1.out; obtain ⟨p0, p1, p2, p3, p4, p5, p6⟩ := hk2'.c7; obtain ⟨f0, f1, f2, f3, f4, f5, f6⟩ := hk2'.f7; obtain ⟨s0, s1, s2, s3, s4, s5, s6⟩ := hk2'.s7; clear hb7 hk2'))
        all_goals (
          go_wp2
          exact bodyPost_ret (v := .tuple #[.agg (chC c), .bool (!gbB (N 2) c.over)]) (by simp [results, Tryz.results35, go_sem, s0, s1, s2, s3, s4, s5, s6]) rfl ⟨by rw [HQ4.out], HBE.out _ j1.out⟩)
end
end Go.Proofs.YtnkjaocmfhjnoaaGreat
