/-
  Package change: data. The conditions: tables and lists are as DfR has them. Package change: attr. The conditions: tables and lists are as DfR has them. Package change: Of, which is what the reference has. The condition: the tables are such as may be. The document's examples of stage 16, as plain mathematics. No condition. The document's example of stage 18, as plain mathematics. No condition. The document's example of stage 18: awake. The condition: what is said of package sys's New, Table and Do of Mkdir and Rename. Package sys: what is said of New, Table, and Do of Mkdir and Rename, together. No condition.
-/
import Derived.Test.YtnkjaocmfhjnoaaGreatE4
import Derived.Test.YtnkjaocmfhjnoaaGreatE6
import Derived.Test.YtnkjaocmfhjnoaaGreatE9
import Derived.Test.YtnkjaocmfhjnoaaGreatE10
import Derived.Test.YtnkjaocmfhjnoaaGreatE15
import Derived.Test.YtnkjaocmfhjnoaaGreatE16
import Derived.Test.YtnkjaocmfhjnoaaGreatE17
import Derived.Test.YtnkjaocmfhjnoaaGreatE20
namespace Go.Proofs.YtnkjaocmfhjnoaaGreat
open Go Go.RowKit
set_option maxRecDepth 100000

attribute [local go_sem] cell_off4 cell_blk4
section
variable {w : World} {vb va : Value} {A : Nat → Option Addr} {C : Nat → Nat} {N : Nat → List Int} {A5 : Option Addr} {c5 : Nat} {lost : List Ech} {A6 : Option Addr} {c6 : Nat} {won : List Ech} {t u : List Nd}
set_option maxHeartbeats 8000000 in
theorem data_any (w : World) (h : DfR w vb va A C N A5 c5 lost A6 c6 won t u) :
    Calls Tryz.prog 31 #[dfV vb va A C N A5 c5 lost A6 c6 won] w (KdA w (Chg.n 2 (alI (N 1) (N 2) (N 3) (N 4)), datB t u (alI (N 1) (N 2) (N 3) (N 4)))) := by
  obtain ⟨W1, hW1⟩ : ∃ W, (w.alloc (.cells (dfC vb va A C N A5 c5 lost A6 c6 won) 87)).alloc (.cells chZ 36) = W := ⟨_, rfl⟩
  have hb1 : Below w.heap.size w W1 := by rw [← hW1]; exact al (ba _ _) _
  have hk1 : Blk W1 w.heap.size 87 (dfC vb va A C N A5 c5 lost A6 c6 won) := by rw [← hW1]; exact (Blk.new _ _ _).alloc _
  obtain ⟨z2, hz2⟩ : ∃ z, w.heap.size + 1 = z := ⟨_, rfl⟩
  have hk2 : Blk W1 z2 36 chZ := by
    have h1 := Blk.new (w.alloc (.cells (dfC vb va A C N A5 c5 lost A6 c6 won) 87)) 36 chZ
    rw [← hW1, ← hz2]
    simpa using h1
  have HZ := Lib.hid (show w.heap.size ≤ z2 ∧ w.heap.size ≠ z2 from ⟨by omega, by omega⟩)
  have HD := Lib.hid (h.below hb1)
  have HB := Lib.hid hb1
  have HK1 := Lib.hid hk1
  have HK2 := Lib.hid hk2
  obtain ⟨x0, x1, x2, x3, x4, x5, x6, x7, x8⟩ := hk1.c9
  clear h hb1 hk1 hk2
  have HAL := Lib.hid (alone_any W1 HD.out)
  have HTB := Lib.hid HD.out.tb.ok.1
  have HTA := Lib.hid HD.out.ta.ok.1
  obtain ⟨I, hI⟩ : ∃ I, alI (N 1) (N 2) (N 3) (N 4) = I := ⟨_, rfl⟩
  rw [hI] at HAL ⊢
  have HFN := Lib.hid (ok_few HTB.out I)
  have HFM := Lib.hid (ok_few HTA.out I)
  have HQ := Lib.hid (show datB t u I = toB (((tget t I).kind = 1 ∧ (tget u I).kind = 1) ∧ (tget t I).uid = (tget u I).uid ∧ (tget t I).gid = (tget u I).gid ∧ (tget t I).target = (tget u I).target) from rfl)
  clear hI
  generalize tget t I = n at HAL HFN HQ
  generalize tget u I = m at HAL HFM HQ
  go_enter Tryz.func31, Tryz.ntmps31
  go_wp2_with fail
  clear hW1 hz2
  refine HAL.out.mono ?_
  rintro e w2 ⟨B1, k1, B2, k2, B3, k3, B4, k4, rfl, hd, he, hd', he', hb2⟩
  obtain ⟨z5, hz5⟩ : ∃ z, w2.heap.size = z := ⟨_, rfl⟩
  obtain ⟨z6, hz6⟩ : ∃ z, z5 + 1 = z := ⟨_, rfl⟩
  obtain ⟨W3, hW3⟩ : ∃ W, (w2.alloc (.cells ndZ 65)).alloc (.cells ndZ 65) = W := ⟨_, rfl⟩
  have hb3 : Below w2.heap.size w2 W3 := by rw [← hW3]; exact al (ba _ _) _
  have hk5 : Blk W3 z5 65 ndZ := by rw [← hW3, ← hz5]; exact (Blk.new _ _ _).alloc _
  have hk6 : Blk W3 z6 65 ndZ := by
    have h1 := Blk.new (w2.alloc (.cells ndZ 65)) 65 ndZ
    rw [← hW3, ← hz6, ← hz5]
    simpa using h1
  have h56 : z5 ≠ z6 := by omega
  have h65 : z6 ≠ z5 := by omega
  have hlt : z2 < z5 := by have := (HK2.out.below hb2).lt; omega
  have hl6 : z5 < z6 := by omega
  have hl1 : W1.heap.size ≤ z5 := by have := hb2.size; omega
  have hg5 := grown7 W3 z5 (.int .i64 n.kind) (.int .i64 n.mode) (.int .i64 n.uid) (.int .i64 n.gid) (.slice B1 n.data.length k1) (.slice B2 n.ents.length k2) (.string (bA n.target))
  have hk5n := hk5.put7 (.int .i64 n.kind) (.int .i64 n.mode) (.int .i64 n.uid) (.int .i64 n.gid) (.slice B1 n.data.length k1) (.slice B2 n.ents.length k2) (.string (bA n.target))
  have hk6z := hk6.kept hg5 (some_ne h65)
  have hg6 := grown7 (put7 W3 z5 (.int .i64 n.kind) (.int .i64 n.mode) (.int .i64 n.uid) (.int .i64 n.gid) (.slice B1 n.data.length k1) (.slice B2 n.ents.length k2) (.string (bA n.target))) z6 (.int .i64 m.kind) (.int .i64 m.mode) (.int .i64 m.uid) (.int .i64 m.gid) (.slice B3 m.data.length k3) (.slice B4 m.ents.length k4) (.string (bA m.target))
  have hk6m := hk6z.put7 (.int .i64 m.kind) (.int .i64 m.mode) (.int .i64 m.uid) (.int .i64 m.gid) (.slice B3 m.data.length k3) (.slice B4 m.ents.length k4) (.string (bA m.target))
  have hk5m := hk5n.kept hg6 (some_ne h56)
  have hX := And.intro (hd.below hb3) (And.intro (he.below hb3) (And.intro (hd'.below hb3) (he'.below hb3)))
  have key : ∀ W W' (g : Nat) (cs : Array Value), Blk W g 65 cs → W.grownBy W' (some g) → BytesT W (.slice B1 n.data.length k1) n.data ∧ EntsT W (.slice B2 n.ents.length k2) n.ents ∧ BytesT W (.slice B3 m.data.length k3) m.data ∧ EntsT W (.slice B4 m.ents.length k4) m.ents → BytesT W' (.slice B1 n.data.length k1) n.data ∧ EntsT W' (.slice B2 n.ents.length k2) n.ents ∧ BytesT W' (.slice B3 m.data.length k3) m.data ∧ EntsT W' (.slice B4 m.ents.length k4) m.ents := fun W W' g cs hk hg hx =>
    ⟨hx.1.other hg (fun ad _ _ hv => by obtain ⟨cs, hb⟩ := hx.1.2 ad _ _ hv; exact blk_ne hb hk (by decide)), hx.2.1.other hg (fun ad _ _ hv => by obtain ⟨cs, hb⟩ := hx.2.1.2 ad _ _ hv; exact blk_ne hb hk (by decide)), hx.2.2.1.other hg (fun ad _ _ hv => by obtain ⟨cs, hb⟩ := hx.2.2.1.2 ad _ _ hv; exact blk_ne hb hk (by decide)), hx.2.2.2.other hg (fun ad _ _ hv => by obtain ⟨cs, hb⟩ := hx.2.2.2.2 ad _ _ hv; exact blk_ne hb hk (by decide))⟩
  have hX4 := key _ _ _ _ hk6z hg6 (key _ _ _ _ hk5 hg5 hX)
  have hb4 : Below W1.heap.size W1 (put7 (put7 W3 z5 (.int .i64 n.kind) (.int .i64 n.mode) (.int .i64 n.uid) (.int .i64 n.gid) (.slice B1 n.data.length k1) (.slice B2 n.ents.length k2) (.string (bA n.target))) z6 (.int .i64 m.kind) (.int .i64 m.mode) (.int .i64 m.uid) (.int .i64 m.gid) (.slice B3 m.data.length k3) (.slice B4 m.ents.length k4) (.string (bA m.target))) := below_grown (below_grown (bt hb3 hb2) hg5 hl1) hg6 (by omega)
  obtain ⟨p0, p1, p2, p3, p4, p5, p6⟩ := hk5.c7
  obtain ⟨f0, f1, f2, f3, f4, f5, f6⟩ := hk5.f7
  obtain ⟨q0, q1, q2, q3, q4, q5, q6⟩ := hk6.c7
  obtain ⟨g0, g1, g2, g3, g4, g5, g6⟩ := hk6.f7
  clear hd he hd' he' hb2 hb3 hk5 hk6 hg5 hk5n hk6z hg6 hX x0 x1 x2 x3 x4 x5 x6 x7 x8 HAL
  go_upto_region 2 with fail
  clear hW3 hz5 hz6
  unfold put7 at hk6m hk5m hX4 hb4
  obtain ⟨W4, hW4⟩ : ∃ W, ((((((((((((((W3.setCell ⟨z5, 0, none⟩ (.int .i64 n.kind)).setCell ⟨z5, 1, none⟩ (.int .i64 n.mode)).setCell ⟨z5, 2, none⟩ (.int .i64 n.uid)).setCell ⟨z5, 3, none⟩ (.int .i64 n.gid)).setCell ⟨z5, 4, none⟩ (.slice B1 n.data.length k1)).setCell ⟨z5, 5, none⟩ (.slice B2 n.ents.length k2)).setCell ⟨z5, 6, none⟩ (.string (bA n.target))).setCell ⟨z6, 0, none⟩ (.int .i64 m.kind)).setCell ⟨z6, 1, none⟩ (.int .i64 m.mode)).setCell ⟨z6, 2, none⟩ (.int .i64 m.uid)).setCell ⟨z6, 3, none⟩ (.int .i64 m.gid)).setCell ⟨z6, 4, none⟩ (.slice B3 m.data.length k3)).setCell ⟨z6, 5, none⟩ (.slice B4 m.ents.length k4)).setCell ⟨z6, 6, none⟩ (.string (bA m.target))) = W := ⟨_, rfl⟩
  rw [hW4] at hk6m hk5m hX4 hb4 ⊢
  clear hW4 p0 p1 p2 p3 p4 p5 p6 f0 f1 f2 f3 f4 f5 f6 q0 q1 q2 q3 q4 q5 q6 g0 g1 g2 g3 g4 g5 g6
  have HK5 := Lib.hid hk5m
  have HK6 := Lib.hid hk6m
  have HX4 := Lib.hid hX4
  have HB4 := Lib.hid hb4
  have HKEY := Lib.hid key
  obtain ⟨p0, p1, p2, p3, p4, p5, p6⟩ := hk5m.c7
  obtain ⟨f0, f1, f2, f3, f4, f5, f6⟩ := hk5m.f7
  obtain ⟨q0, q1, q2, q3, q4, q5, q6⟩ := hk6m.c7
  clear hk5m hk6m hX4 hb4 key
  have h25 : z2 ≠ z5 := by omega
  have h52 : z5 ≠ z2 := by omega
  have h26 : z2 ≠ z6 := by omega
  have h62 : z6 ≠ z2 := by omega
  have hk2' := HK2.out.below HB4.out
  obtain ⟨r0, r1, r2, r3, r4, r5, r6⟩ := hk2'.c7
  obtain ⟨e0, e1, e2, e3, e4, e5, e6⟩ := hk2'.f7
  obtain ⟨s0, s1, s2, s3, s4, s5, s6⟩ := hk2'.s7
  have HBZ := Lib.hid (below_grown (bt HB4.out HB.out) (grown7 W4 z2 (.int .i64 2) (.int .i64 I) (.int .i64 0) (.string ⟨#[]⟩) (.int .i64 0) (.string ⟨#[]⟩) (.int .i64 0)) HZ.out.1)
  clear hk2' hl1 hlt HK5 HK6 HX4 HKEY f0 f1 f2 f3 f4 f5 f6
  by_cases h1 : n.kind = 1
  · have c1 : (n.kind == 1) = true := by simpa using h1
    by_cases h2 : m.kind = 1
    · have c2 : (m.kind == 1) = true := by simpa using h2
      by_cases h3 : n.uid = m.uid
      · have c3 : (n.uid == m.uid) = true := by simpa using h3
        by_cases h4 : n.gid = m.gid
        · have c4 : (n.gid == m.gid) = true := by simpa using h4
          by_cases h5 : n.target = m.target
          · have c5' : ((bA n.target).toList == (bA m.target).toList) = true := by rw [h5]; simp
            have HQ2 := Lib.hid (show datB t u I = true by rw [HQ.out]; exact toB_true ⟨⟨h1, h2⟩, h3, h4, h5⟩)
            clear h1 h2 h3 h4 h5
            clear HQ
            go_wp2
            go_region
            go_wp2
            exact bodyPost_ret (v := .tuple #[.agg #[.int .i64 2, .int .i64 I, .int .i64 0, .string ⟨#[]⟩, .int .i64 0, .string ⟨#[]⟩, .int .i64 0], .bool true]) (by simp [results, Tryz.results31, go_sem, s0, s1, s2, s3, s4, s5, s6]) rfl ⟨by rw [HQ2.out]; rfl, HBZ.out.drew⟩
          · have c5' : ((bA n.target).toList == (bA m.target).toList) = false := by
              rw [beq_eq_false_iff_ne, bA_list, bA_list]
              exact h5
            have HQ2 := Lib.hid (show datB t u I = false by rw [HQ.out]; exact toB_false (fun z => h5 z.2.2.2))
            clear h1 h2 h3 h4 h5
            clear HQ
            go_wp2
            go_region
            go_wp2
            exact bodyPost_ret (v := .tuple #[.agg #[.int .i64 2, .int .i64 I, .int .i64 0, .string ⟨#[]⟩, .int .i64 0, .string ⟨#[]⟩, .int .i64 0], .bool false]) (by simp [results, Tryz.results31, go_sem, s0, s1, s2, s3, s4, s5, s6]) rfl ⟨by rw [HQ2.out]; rfl, HBZ.out.drew⟩
        · have c4 : (n.gid == m.gid) = false := by simpa using h4
          have HQ2 := Lib.hid (show datB t u I = false by rw [HQ.out]; exact toB_false (fun z => h4 z.2.2.1))
          clear h1 h2 h3 h4
          clear HQ
          go_wp2
          go_region
          go_wp2
          exact bodyPost_ret (v := .tuple #[.agg #[.int .i64 2, .int .i64 I, .int .i64 0, .string ⟨#[]⟩, .int .i64 0, .string ⟨#[]⟩, .int .i64 0], .bool false]) (by simp [results, Tryz.results31, go_sem, s0, s1, s2, s3, s4, s5, s6]) rfl ⟨by rw [HQ2.out]; rfl, HBZ.out.drew⟩
      · have c3 : (n.uid == m.uid) = false := by simpa using h3
        have HQ2 := Lib.hid (show datB t u I = false by rw [HQ.out]; exact toB_false (fun z => h3 z.2.1))
        clear h1 h2 h3
        clear HQ
        go_wp2
        go_region
        go_wp2
        exact bodyPost_ret (v := .tuple #[.agg #[.int .i64 2, .int .i64 I, .int .i64 0, .string ⟨#[]⟩, .int .i64 0, .string ⟨#[]⟩, .int .i64 0], .bool false]) (by simp [results, Tryz.results31, go_sem, s0, s1, s2, s3, s4, s5, s6]) rfl ⟨by rw [HQ2.out]; rfl, HBZ.out.drew⟩
    · have c2 : (m.kind == 1) = false := by simpa using h2
      have HQ2 := Lib.hid (show datB t u I = false by rw [HQ.out]; exact toB_false (fun z => h2 z.1.2))
      clear h1 h2
      clear HQ
      go_wp2
      go_region
      go_wp2
      exact bodyPost_ret (v := .tuple #[.agg #[.int .i64 2, .int .i64 I, .int .i64 0, .string ⟨#[]⟩, .int .i64 0, .string ⟨#[]⟩, .int .i64 0], .bool false]) (by simp [results, Tryz.results31, go_sem, s0, s1, s2, s3, s4, s5, s6]) rfl ⟨by rw [HQ2.out]; rfl, HBZ.out.drew⟩
  · have c1 : (n.kind == 1) = false := by simpa using h1
    have HQ2 := Lib.hid (show datB t u I = false by rw [HQ.out]; exact toB_false (fun z => h1 z.1.1))
    clear h1
    clear HQ
    go_wp2
    go_region
    go_wp2
    exact bodyPost_ret (v := .tuple #[.agg #[.int .i64 2, .int .i64 I, .int .i64 0, .string ⟨#[]⟩, .int .i64 0, .string ⟨#[]⟩, .int .i64 0], .bool false]) (by simp [results, Tryz.results31, go_sem, s0, s1, s2, s3, s4, s5, s6]) rfl ⟨by rw [HQ2.out]; rfl, HBZ.out.drew⟩
end
end Go.Proofs.YtnkjaocmfhjnoaaGreat
namespace Go.Proofs.YtnkjaocmfhjnoaaGreat
open Go Go.RowKit
set_option maxRecDepth 100000

attribute [local go_sem] cell_off4 cell_blk4
section
variable {w : World} {vb va : Value} {A : Nat → Option Addr} {C : Nat → Nat} {N : Nat → List Int} {A5 : Option Addr} {c5 : Nat} {lost : List Ech} {A6 : Option Addr} {c6 : Nat} {won : List Ech} {t u : List Nd}
set_option maxHeartbeats 8000000 in
theorem attr_any (w : World) (h : DfR w vb va A C N A5 c5 lost A6 c6 won t u) :
    Calls Tryz.prog 30 #[dfV vb va A C N A5 c5 lost A6 c6 won] w (KdA w (Chg.n 1 (alI (N 1) (N 2) (N 3) (N 4)), atrB t u (alI (N 1) (N 2) (N 3) (N 4)))) := by
  obtain ⟨W1, hW1⟩ : ∃ W, (w.alloc (.cells (dfC vb va A C N A5 c5 lost A6 c6 won) 87)).alloc (.cells chZ 36) = W := ⟨_, rfl⟩
  have hb1 : Below w.heap.size w W1 := by rw [← hW1]; exact al (ba _ _) _
  have hk1 : Blk W1 w.heap.size 87 (dfC vb va A C N A5 c5 lost A6 c6 won) := by rw [← hW1]; exact (Blk.new _ _ _).alloc _
  obtain ⟨z2, hz2⟩ : ∃ z, w.heap.size + 1 = z := ⟨_, rfl⟩
  have hk2 : Blk W1 z2 36 chZ := by
    have h1 := Blk.new (w.alloc (.cells (dfC vb va A C N A5 c5 lost A6 c6 won) 87)) 36 chZ
    rw [← hW1, ← hz2]
    simpa using h1
  have HZ := Lib.hid (show w.heap.size ≤ z2 ∧ w.heap.size ≠ z2 from ⟨by omega, by omega⟩)
  have HD := Lib.hid (h.below hb1)
  have HB := Lib.hid hb1
  have HK1 := Lib.hid hk1
  have HK2 := Lib.hid hk2
  obtain ⟨x0, x1, x2, x3, x4, x5, x6, x7, x8⟩ := hk1.c9
  clear h hb1 hk1 hk2
  have HAL := Lib.hid (alone_any W1 HD.out)
  have HTB := Lib.hid HD.out.tb.ok.1
  have HTA := Lib.hid HD.out.ta.ok.1
  obtain ⟨I, hI⟩ : ∃ I, alI (N 1) (N 2) (N 3) (N 4) = I := ⟨_, rfl⟩
  rw [hI] at HAL ⊢
  have HFN := Lib.hid (ok_few HTB.out I)
  have HFM := Lib.hid (ok_few HTA.out I)
  have HQ := Lib.hid (show atrB t u I = (I != 0 && toB ((⟨(tget t I).kind, (tget u I).mode, (tget u I).uid, (tget u I).gid, (tget t I).data, (tget t I).ents, (tget t I).target⟩ : Nd) = tget u I)) from rfl)
  clear hI
  generalize tget t I = n at HAL HFN HQ
  generalize tget u I = m at HAL HFM HQ
  go_enter Tryz.func30, Tryz.ntmps30
  go_wp2_with fail
  clear hW1 hz2
  refine HAL.out.mono ?_
  rintro e w2 ⟨B1, k1, B2, k2, B3, k3, B4, k4, rfl, hd, he, hd', he', hb2⟩
  obtain ⟨z5, hz5⟩ : ∃ z, w2.heap.size = z := ⟨_, rfl⟩
  obtain ⟨z6, hz6⟩ : ∃ z, z5 + 1 = z := ⟨_, rfl⟩
  obtain ⟨W3, hW3⟩ : ∃ W, (w2.alloc (.cells ndZ 65)).alloc (.cells ndZ 65) = W := ⟨_, rfl⟩
  have hb3 : Below w2.heap.size w2 W3 := by rw [← hW3]; exact al (ba _ _) _
  have hk5 : Blk W3 z5 65 ndZ := by rw [← hW3, ← hz5]; exact (Blk.new _ _ _).alloc _
  have hk6 : Blk W3 z6 65 ndZ := by
    have h1 := Blk.new (w2.alloc (.cells ndZ 65)) 65 ndZ
    rw [← hW3, ← hz6, ← hz5]
    simpa using h1
  have h56 : z5 ≠ z6 := by omega
  have h65 : z6 ≠ z5 := by omega
  have hlt : z2 < z5 := by have := (HK2.out.below hb2).lt; omega
  have hl6 : z5 < z6 := by omega
  have hl1 : W1.heap.size ≤ z5 := by have := hb2.size; omega
  have hg5 := grown7 W3 z5 (.int .i64 n.kind) (.int .i64 n.mode) (.int .i64 n.uid) (.int .i64 n.gid) (.slice B1 n.data.length k1) (.slice B2 n.ents.length k2) (.string (bA n.target))
  have hk5n := hk5.put7 (.int .i64 n.kind) (.int .i64 n.mode) (.int .i64 n.uid) (.int .i64 n.gid) (.slice B1 n.data.length k1) (.slice B2 n.ents.length k2) (.string (bA n.target))
  have hk6z := hk6.kept hg5 (some_ne h65)
  have hg6 := grown7 (put7 W3 z5 (.int .i64 n.kind) (.int .i64 n.mode) (.int .i64 n.uid) (.int .i64 n.gid) (.slice B1 n.data.length k1) (.slice B2 n.ents.length k2) (.string (bA n.target))) z6 (.int .i64 m.kind) (.int .i64 m.mode) (.int .i64 m.uid) (.int .i64 m.gid) (.slice B3 m.data.length k3) (.slice B4 m.ents.length k4) (.string (bA m.target))
  have hk6m := hk6z.put7 (.int .i64 m.kind) (.int .i64 m.mode) (.int .i64 m.uid) (.int .i64 m.gid) (.slice B3 m.data.length k3) (.slice B4 m.ents.length k4) (.string (bA m.target))
  have hk5m := hk5n.kept hg6 (some_ne h56)
  have hX := And.intro (hd.below hb3) (And.intro (he.below hb3) (And.intro (hd'.below hb3) (he'.below hb3)))
  have key : ∀ W W' (g : Nat) (cs : Array Value), Blk W g 65 cs → W.grownBy W' (some g) → BytesT W (.slice B1 n.data.length k1) n.data ∧ EntsT W (.slice B2 n.ents.length k2) n.ents ∧ BytesT W (.slice B3 m.data.length k3) m.data ∧ EntsT W (.slice B4 m.ents.length k4) m.ents → BytesT W' (.slice B1 n.data.length k1) n.data ∧ EntsT W' (.slice B2 n.ents.length k2) n.ents ∧ BytesT W' (.slice B3 m.data.length k3) m.data ∧ EntsT W' (.slice B4 m.ents.length k4) m.ents := fun W W' g cs hk hg hx =>
    ⟨hx.1.other hg (fun ad _ _ hv => by obtain ⟨cs, hb⟩ := hx.1.2 ad _ _ hv; exact blk_ne hb hk (by decide)), hx.2.1.other hg (fun ad _ _ hv => by obtain ⟨cs, hb⟩ := hx.2.1.2 ad _ _ hv; exact blk_ne hb hk (by decide)), hx.2.2.1.other hg (fun ad _ _ hv => by obtain ⟨cs, hb⟩ := hx.2.2.1.2 ad _ _ hv; exact blk_ne hb hk (by decide)), hx.2.2.2.other hg (fun ad _ _ hv => by obtain ⟨cs, hb⟩ := hx.2.2.2.2 ad _ _ hv; exact blk_ne hb hk (by decide))⟩
  have hX4 := key _ _ _ _ hk6z hg6 (key _ _ _ _ hk5 hg5 hX)
  have hb4 : Below W1.heap.size W1 (put7 (put7 W3 z5 (.int .i64 n.kind) (.int .i64 n.mode) (.int .i64 n.uid) (.int .i64 n.gid) (.slice B1 n.data.length k1) (.slice B2 n.ents.length k2) (.string (bA n.target))) z6 (.int .i64 m.kind) (.int .i64 m.mode) (.int .i64 m.uid) (.int .i64 m.gid) (.slice B3 m.data.length k3) (.slice B4 m.ents.length k4) (.string (bA m.target))) := below_grown (below_grown (bt hb3 hb2) hg5 hl1) hg6 (by omega)
  obtain ⟨p0, p1, p2, p3, p4, p5, p6⟩ := hk5.c7
  obtain ⟨f0, f1, f2, f3, f4, f5, f6⟩ := hk5.f7
  obtain ⟨q0, q1, q2, q3, q4, q5, q6⟩ := hk6.c7
  obtain ⟨g0, g1, g2, g3, g4, g5, g6⟩ := hk6.f7
  clear hd he hd' he' hb2 hb3 hk5 hk6 hg5 hk5n hk6z hg6 hX x0 x1 x2 x3 x4 x5 x6 x7 x8 HAL
  go_upto_region 2 with fail
  clear hW3 hz5 hz6
  unfold put7 at hk6m hk5m hX4 hb4
  obtain ⟨W4, hW4⟩ : ∃ W, ((((((((((((((W3.setCell ⟨z5, 0, none⟩ (.int .i64 n.kind)).setCell ⟨z5, 1, none⟩ (.int .i64 n.mode)).setCell ⟨z5, 2, none⟩ (.int .i64 n.uid)).setCell ⟨z5, 3, none⟩ (.int .i64 n.gid)).setCell ⟨z5, 4, none⟩ (.slice B1 n.data.length k1)).setCell ⟨z5, 5, none⟩ (.slice B2 n.ents.length k2)).setCell ⟨z5, 6, none⟩ (.string (bA n.target))).setCell ⟨z6, 0, none⟩ (.int .i64 m.kind)).setCell ⟨z6, 1, none⟩ (.int .i64 m.mode)).setCell ⟨z6, 2, none⟩ (.int .i64 m.uid)).setCell ⟨z6, 3, none⟩ (.int .i64 m.gid)).setCell ⟨z6, 4, none⟩ (.slice B3 m.data.length k3)).setCell ⟨z6, 5, none⟩ (.slice B4 m.ents.length k4)).setCell ⟨z6, 6, none⟩ (.string (bA m.target))) = W := ⟨_, rfl⟩
  rw [hW4] at hk6m hk5m hX4 hb4 ⊢
  clear hW4 p0 p1 p2 p3 p4 p5 p6 f0 f1 f2 f3 f4 f5 f6 q0 q1 q2 q3 q4 q5 q6 g0 g1 g2 g3 g4 g5 g6
  have HK5 := Lib.hid hk5m
  have HK6 := Lib.hid hk6m
  have HX4 := Lib.hid hX4
  have HB4 := Lib.hid hb4
  have HKEY := Lib.hid key
  obtain ⟨p0, p1, p2, p3, p4, p5, p6⟩ := hk5m.c7
  obtain ⟨f0, f1, f2, f3, f4, f5, f6⟩ := hk5m.f7
  obtain ⟨q0, q1, q2, q3, q4, q5, q6⟩ := hk6m.c7
  clear hk5m hk6m hX4 hb4 key
  go_region
  have hg := grown_trans (grown_trans (grown_setCell W4 ⟨z5, 1, none⟩ (.int .i64 m.mode)) (grown_setCell (W4.setCell ⟨z5, 1, none⟩ (.int .i64 m.mode)) ⟨z5, 2, none⟩ (.int .i64 m.uid))) (grown_setCell ((W4.setCell ⟨z5, 1, none⟩ (.int .i64 m.mode)).setCell ⟨z5, 2, none⟩ (.int .i64 m.uid)) ⟨z5, 3, none⟩ (.int .i64 m.gid))
  have hk5' := (((HK5.out.set7_1 (.int .i64 m.mode)).set7_2 (.int .i64 m.uid)).set7_3 (.int .i64 m.gid)).below (Below.refl _ _).drew
  have hk6' := (HK6.out.kept hg (some_ne h65)).below (Below.refl _ _).drew
  have hx5 := HKEY.out _ _ _ _ HK5.out hg HX4.out
  have hb5 := (below_grown HB4.out hg hl1).drew
  have hX5 := And.intro (hx5.1.below (Below.refl _ _).drew).1 (And.intro (hx5.2.1.below (Below.refl _ _).drew).1 (And.intro (hx5.2.2.1.below (Below.refl _ _).drew).1 (hx5.2.2.2.below (Below.refl _ _).drew).1))
  obtain ⟨W5, hW5⟩ : ∃ W, (((W4.setCell ⟨z5, 1, none⟩ (.int .i64 m.mode)).setCell ⟨z5, 2, none⟩ (.int .i64 m.uid)).setCell ⟨z5, 3, none⟩ (.int .i64 m.gid)).drew = W := ⟨_, rfl⟩
  rw [hW5] at hk5' hk6' hX5 hb5 ⊢
  clear hW5 p0 p1 p2 p3 p4 p5 p6 f0 f1 f2 f3 f4 f5 f6 q0 q1 q2 q3 q4 q5 q6 hx5 hg HK5 HK6 HX4 HB4 HKEY
  have HSM := Lib.hid (same_any ⟨n.kind, m.mode, m.uid, m.gid, n.data, n.ents, n.target⟩ m _ _ _ _ W5 hX5.1 hX5.2.1 hX5.2.2.1 hX5.2.2.2 ⟨HFN.out.1, HFN.out.2, HFN.out.3, HFN.out.4⟩ HFM.out)
  have HB5 := Lib.hid hb5
  generalize toB ((⟨n.kind, m.mode, m.uid, m.gid, n.data, n.ents, n.target⟩ : Nd) = m) = q at HSM HQ
  unfold nodeV at HSM
  obtain ⟨p0, p1, p2, p3, p4, p5, p6⟩ := hk5'.c7
  obtain ⟨q0, q1, q2, q3, q4, q5, q6⟩ := hk6'.c7
  clear hk5' hk6' hX5
  by_cases h0 : I = 0
  · have h1 : (I != 0) = false := by simpa using h0
    have HQ2 := Lib.hid (show atrB t u I = false by rw [HQ.out, h1]; rfl)
    clear h0 HSM HQ p0 p1 p2 p3 p4 p5 p6 q0 q1 q2 q3 q4 q5 q6
    have hk2' := HK2.out.below hb5
    obtain ⟨p0, p1, p2, p3, p4, p5, p6⟩ := hk2'.c7
    obtain ⟨f0, f1, f2, f3, f4, f5, f6⟩ := hk2'.f7
    obtain ⟨s0, s1, s2, s3, s4, s5, s6⟩ := hk2'.s7
    have HBZ := Lib.hid (below_grown (bt hb5 HB.out) (grown7 W5 z2 (.int .i64 1) (.int .i64 I) (.int .i64 0) (.string ⟨#[]⟩) (.int .i64 0) (.string ⟨#[]⟩) (.int .i64 0)) HZ.out.1)
    clear hk2' hb5
    go_wp2
    refine bodyPost_ret (v := .tuple #[.agg #[.int .i64 1, .int .i64 I, .int .i64 0, .string ⟨#[]⟩, .int .i64 0, .string ⟨#[]⟩, .int .i64 0], .bool false]) (by simp [results, Tryz.results30, go_sem, s0, s1, s2, s3, s4, s5, s6]) rfl ?_
    exact ⟨by rw [HQ2.out]; rfl, HBZ.out⟩
  · have h1 : (I != 0) = true := by simpa using h0
    have HQ2 := Lib.hid (show atrB t u I = q by rw [HQ.out, h1]; rfl)
    clear h0 HQ hb5
    go_wp2_with fail
    refine HSM.out.mono ?_
    rintro e wz ⟨rfl, hb6⟩
    have hb7 := bt hb6 HB5.out
    clear hb6 HSM p0 p1 p2 p3 p4 p5 p6 q0 q1 q2 q3 q4 q5 q6
    have hk2' := HK2.out.below hb7
    obtain ⟨p0, p1, p2, p3, p4, p5, p6⟩ := hk2'.c7
    obtain ⟨f0, f1, f2, f3, f4, f5, f6⟩ := hk2'.f7
    obtain ⟨s0, s1, s2, s3, s4, s5, s6⟩ := hk2'.s7
    have HBZ := Lib.hid (below_grown (bt hb7 HB.out) (grown7 wz z2 (.int .i64 1) (.int .i64 I) (.int .i64 0) (.string ⟨#[]⟩) (.int .i64 0) (.string ⟨#[]⟩) (.int .i64 0)) HZ.out.1)
    clear hk2' hb7
    go_wp2
    refine bodyPost_ret (v := .tuple #[.agg #[.int .i64 1, .int .i64 I, .int .i64 0, .string ⟨#[]⟩, .int .i64 0, .string ⟨#[]⟩, .int .i64 0], .bool q]) (by simp [results, Tryz.results30, go_sem, s0, s1, s2, s3, s4, s5, s6]) rfl ?_
    exact ⟨by rw [HQ2.out]; rfl, HBZ.out⟩
end
end Go.Proofs.YtnkjaocmfhjnoaaGreat
namespace Go.Proofs.YtnkjaocmfhjnoaaGreat
open Go Go.RowKit
set_option maxRecDepth 100000

attribute [local go_sem] cell_off4 cell_blk4
noncomputable def kdP (t u : List Nd) (f g e s : List Int) (lost won : List Ech) : Nat → Chg × Bool
  | 0 => (Chg.zero, nonB f g e s)
  | 1 => (Chg.n 1 (alI f g e s), atrB t u (alI f g e s))
  | 2 => (Chg.n 2 (alI f g e s), datB t u (alI f g e s))
  | 3 => mkP f g s lost won
  | 4 => (Chg.n 6 (onlyI g), freB f g e s)
  | 5 => takP f g s lost won
  | _ => movP f g s lost won
theorem prg_first (P : Nat → Chg × Bool) (X : Chg) (hX : X = if (P 0).2 = true then (P 0).1 else if (P 1).2 = true then (P 1).1 else if (P 2).2 = true then (P 2).1 else if (P 3).2 = true then (P 3).1 else if (P 4).2 = true then (P 4).1 else if (P 5).2 = true then (P 5).1 else if (P 6).2 = true then (P 6).1 else Chg.k 7) :
    (∀ k, k < 7 → (∀ j, j < k → (P j).2 = false) → (P k).2 = true → X = (P k).1) ∧ ((∀ j, j < 7 → (P j).2 = false) → X = Chg.k 7) := by
  refine ⟨fun k hk h h2 => ?_, fun h => ?_⟩
  · have h6 : k = 0 ∨ k = 1 ∨ k = 2 ∨ k = 3 ∨ k = 4 ∨ k = 5 ∨ k = 6 := by omega
    rcases h6 with rfl | rfl | rfl | rfl | rfl | rfl | rfl
    · rw [hX, if_pos h2]
    · rw [hX, not_tt (h 0 (by decide)), if_pos h2]
    · rw [hX, not_tt (h 0 (by decide)), not_tt (h 1 (by decide)), if_pos h2]
    · rw [hX, not_tt (h 0 (by decide)), not_tt (h 1 (by decide)), not_tt (h 2 (by decide)), if_pos h2]
    · rw [hX, not_tt (h 0 (by decide)), not_tt (h 1 (by decide)), not_tt (h 2 (by decide)), not_tt (h 3 (by decide)), if_pos h2]
    · rw [hX, not_tt (h 0 (by decide)), not_tt (h 1 (by decide)), not_tt (h 2 (by decide)), not_tt (h 3 (by decide)), not_tt (h 4 (by decide)), if_pos h2]
    · rw [hX, not_tt (h 0 (by decide)), not_tt (h 1 (by decide)), not_tt (h 2 (by decide)), not_tt (h 3 (by decide)), not_tt (h 4 (by decide)), not_tt (h 5 (by decide)), if_pos h2]
  · rw [hX, not_tt (h 0 (by decide)), not_tt (h 1 (by decide)), not_tt (h 2 (by decide)), not_tt (h 3 (by decide)), not_tt (h 4 (by decide)), not_tt (h 5 (by decide)), not_tt (h 6 (by decide))]
theorem of_first {t u : List Nd} (ht : okT t) (hu : okT u) (N : Nat → List Int) (hN : N = nkL t u 24) : (∀ k, k < 7 → (∀ j, j < k → (kdP t u (N 1) (N 2) (N 3) (N 4) (justL t u (N 3)) (justL u t (N 3)) j).2 = false) → (kdP t u (N 1) (N 2) (N 3) (N 4) (justL t u (N 3)) (justL u t (N 3)) k).2 = true → ofC t u = (kdP t u (N 1) (N 2) (N 3) (N 4) (justL t u (N 3)) (justL u t (N 3)) k).1) ∧
    ((∀ j, j < 7 → (kdP t u (N 1) (N 2) (N 3) (N 4) (justL t u (N 3)) (justL u t (N 3)) j).2 = false) → ofC t u = Chg.k 7) := by
  have hN2 : ∀ f, N f = numL t u f idx24 := fun f => by
    rw [hN]
    show numL t u f (idx24.take 24) = _
    rw [List.take_of_length_le (by rw [idx24_len]; exact Nat.le_refl _)]
  refine prg_first (kdP t u (N 1) (N 2) (N 3) (N 4) (justL t u (N 3)) (justL u t (N 3))) (ofC t u) ?_
  rw [← prg_of ht hu, hN2, hN2, hN2, hN2]
  rfl
set_option maxHeartbeats 16000000 in
theorem chOf_any (pb pa : Option Addr) (t u : List Nd) (w : World) (hb : TabP w (.pointer pb) t) (ha : TabP w (.pointer pa) u) :
    Calls Tryz.prog 13 #[.pointer pb, .pointer pa] w fun e w' => e = .returned (.agg (chC (ofC t u))) ∧ Below w.heap.size w w' := by
  have hmf : ∀ (fn : Fn) (first cap : Array Value) (w : World), (Instr.makeFunc fn first cap).run Tryz.prog w = .ok (.func fn first cap) w := fun _ _ _ _ => rfl
  have hb0 := ba w (.cells chZ 36)
  have hk0 := Blk.new w 36 chZ
  obtain ⟨hO1, hO2⟩ := of_first hb.ok.1 ha.ok.1 (nkL t u 24) rfl
  obtain ⟨W1, hW1⟩ : ∃ W, w.alloc (.cells chZ 36) = W := ⟨_, rfl⟩
  rw [hW1] at hb0 hk0
  have HDF := differenceOf_any pb pa t u W1 (hb.below hb0) (ha.below hb0)
  unfold DfP at HDF
  obtain ⟨lost, hlo⟩ : ∃ x, justL t u (nkL t u 24 3) = x := ⟨_, rfl⟩
  obtain ⟨won, hwo⟩ : ∃ x, justL u t (nkL t u 24 3) = x := ⟨_, rfl⟩
  rw [hlo, hwo] at HDF hO1 hO2
  have HDF := Lib.hid HDF
  have HO1 := Lib.hid hO1
  have HO2 := Lib.hid hO2
  have HB0 := Lib.hid hb0
  have HK0 := Lib.hid hk0
  obtain ⟨X, hX⟩ : ∃ X, ofC t u = X := ⟨_, rfl⟩
  rw [hX] at HO1 HO2 ⊢
  clear hb ha hb0 hk0 hO1 hO2 hlo hwo hX
  go_enter Tryz.func13, Tryz.ntmps13
  go_wp2_with fail
  clear hW1
  refine HDF.out.mono ?_
  rintro e w2 ⟨A, C, A5, c5, A6, c6, rfl, hd, hb2⟩
  have hb3 := bt (ba w2 (.cells (dfC (.pointer pb) (.pointer pa) A C (nkL t u 24) A5 c5 lost A6 c6 won) 87)) hb2
  have hd3 := hd.below (ba w2 (.cells (dfC (.pointer pb) (.pointer pa) A C (nkL t u 24) A5 c5 lost A6 c6 won) 87))
  have hk5 := Blk.new w2 87 (dfC (.pointer pb) (.pointer pa) A C (nkL t u 24) A5 c5 lost A6 c6 won)
  obtain ⟨z5, hz5⟩ : ∃ z, w2.heap.size = z := ⟨_, rfl⟩
  obtain ⟨W3, hW3⟩ : ∃ W, w2.alloc (.cells (dfC (.pointer pb) (.pointer pa) A C (nkL t u 24) A5 c5 lost A6 c6 won) 87) = W := ⟨_, rfl⟩
  rw [hz5] at hk5
  rw [hW3] at hb3 hd3 hk5
  unfold dfC at hW3
  go_upto_region 2 with fail
  clear hz5 hW3 hd hb2 HDF
  obtain ⟨x0, x1, x2, x3, x4, x5, x6, x7, x8⟩ := hk5.c9
  have hb4 := bt (ba W3 (.cells #[.func (.func 29) #[dfV (.pointer pb) (.pointer pa) A C (nkL t u 24) A5 c5 lost A6 c6 won] #[], .func (.func 30) #[dfV (.pointer pb) (.pointer pa) A C (nkL t u 24) A5 c5 lost A6 c6 won] #[], .func (.func 31) #[dfV (.pointer pb) (.pointer pa) A C (nkL t u 24) A5 c5 lost A6 c6 won] #[], .func (.func 32) #[dfV (.pointer pb) (.pointer pa) A C (nkL t u 24) A5 c5 lost A6 c6 won] #[], .func (.func 33) #[dfV (.pointer pb) (.pointer pa) A C (nkL t u 24) A5 c5 lost A6 c6 won] #[], .func (.func 34) #[dfV (.pointer pb) (.pointer pa) A C (nkL t u 24) A5 c5 lost A6 c6 won] #[], .func (.func 35) #[dfV (.pointer pb) (.pointer pa) A C (nkL t u 24) A5 c5 lost A6 c6 won] #[]] 89)) hb3
  have hd4 := hd3.below (ba W3 (.cells #[.func (.func 29) #[dfV (.pointer pb) (.pointer pa) A C (nkL t u 24) A5 c5 lost A6 c6 won] #[], .func (.func 30) #[dfV (.pointer pb) (.pointer pa) A C (nkL t u 24) A5 c5 lost A6 c6 won] #[], .func (.func 31) #[dfV (.pointer pb) (.pointer pa) A C (nkL t u 24) A5 c5 lost A6 c6 won] #[], .func (.func 32) #[dfV (.pointer pb) (.pointer pa) A C (nkL t u 24) A5 c5 lost A6 c6 won] #[], .func (.func 33) #[dfV (.pointer pb) (.pointer pa) A C (nkL t u 24) A5 c5 lost A6 c6 won] #[], .func (.func 34) #[dfV (.pointer pb) (.pointer pa) A C (nkL t u 24) A5 c5 lost A6 c6 won] #[], .func (.func 35) #[dfV (.pointer pb) (.pointer pa) A C (nkL t u 24) A5 c5 lost A6 c6 won] #[]] 89))
  have hkf := Blk.new W3 89 #[.func (.func 29) #[dfV (.pointer pb) (.pointer pa) A C (nkL t u 24) A5 c5 lost A6 c6 won] #[], .func (.func 30) #[dfV (.pointer pb) (.pointer pa) A C (nkL t u 24) A5 c5 lost A6 c6 won] #[], .func (.func 31) #[dfV (.pointer pb) (.pointer pa) A C (nkL t u 24) A5 c5 lost A6 c6 won] #[], .func (.func 32) #[dfV (.pointer pb) (.pointer pa) A C (nkL t u 24) A5 c5 lost A6 c6 won] #[], .func (.func 33) #[dfV (.pointer pb) (.pointer pa) A C (nkL t u 24) A5 c5 lost A6 c6 won] #[], .func (.func 34) #[dfV (.pointer pb) (.pointer pa) A C (nkL t u 24) A5 c5 lost A6 c6 won] #[], .func (.func 35) #[dfV (.pointer pb) (.pointer pa) A C (nkL t u 24) A5 c5 lost A6 c6 won] #[]]
  obtain ⟨zf, hzf⟩ : ∃ z, W3.heap.size = z := ⟨_, rfl⟩
  rw [hzf] at hkf
  go_wp2
  obtain ⟨W4, hW4⟩ : ∃ W, W3.alloc (.cells #[.func (.func 29) #[dfV (.pointer pb) (.pointer pa) A C (nkL t u 24) A5 c5 lost A6 c6 won] #[], .func (.func 30) #[dfV (.pointer pb) (.pointer pa) A C (nkL t u 24) A5 c5 lost A6 c6 won] #[], .func (.func 31) #[dfV (.pointer pb) (.pointer pa) A C (nkL t u 24) A5 c5 lost A6 c6 won] #[], .func (.func 32) #[dfV (.pointer pb) (.pointer pa) A C (nkL t u 24) A5 c5 lost A6 c6 won] #[], .func (.func 33) #[dfV (.pointer pb) (.pointer pa) A C (nkL t u 24) A5 c5 lost A6 c6 won] #[], .func (.func 34) #[dfV (.pointer pb) (.pointer pa) A C (nkL t u 24) A5 c5 lost A6 c6 won] #[], .func (.func 35) #[dfV (.pointer pb) (.pointer pa) A C (nkL t u 24) A5 c5 lost A6 c6 won] #[]] 89) = W := ⟨_, rfl⟩
  rw [hW4] at hb4 hd4 hkf ⊢
  clear hW4 hzf hb3 hd3 hk5 x0 x1 x2 x3 x4 x5 x6 x7 x8
  have HB4 := Lib.hid hb4
  have HD4 := Lib.hid hd4
  have HKF := Lib.hid hkf
  clear hb4 hd4 hkf
  go_loopg [29] 7 (fun gh s29 wr => ∃ k : Nat, s29 = .int .i64 k ∧ k ≤ 7 ∧ gh = 7 - k ∧ (∀ j, j < k → (kdP t u (nkL t u 24 1) (nkL t u 24 2) (nkL t u 24 3) (nkL t u 24 4) lost won j).2 = false) ∧ Below W4.heap.size W4 wr)
  case atStart => exact ⟨0, rfl, Nat.zero_le _, rfl, fun j hj => absurd hj (by omega), Below.refl _ _⟩
  case round =>
    obtain ⟨k, rfl, hk, rfl, hj, hbr⟩ := hrel
    have HJ := Lib.hid hj
    have HBR := Lib.hid hbr
    have HK0' := Lib.hid (HK0.out.below (bt hbr HB4.out))
    have HBW := Lib.hid (bt (bt hbr HB4.out) HB0.out)
    clear hj hbr
    by_cases hlt : k < 7
    · have hlt' : (k : Int) < 7 := by omega
      have HKX : Calls Tryz.prog ((fun k : Nat => match k with | 0 => 29 | 1 => 30 | 2 => 31 | 3 => 32 | 4 => 33 | 5 => 34 | _ => 35) k) #[dfV (.pointer pb) (.pointer pa) A C (nkL t u 24) A5 c5 lost A6 c6 won] wr (KdA wr (kdP t u (nkL t u 24 1) (nkL t u 24 2) (nkL t u 24 3) (nkL t u 24 4) lost won k)) := by
        have hd := HD4.out.below HBR.out
        have h6 : k = 0 ∨ k = 1 ∨ k = 2 ∨ k = 3 ∨ k = 4 ∨ k = 5 ∨ k = 6 := by omega
        rcases h6 with rfl | rfl | rfl | rfl | rfl | rfl | rfl
        · exact none_any wr hd
        · exact attr_any wr hd
        · exact data_any wr hd
        · exact make_any wr hd
        · exact free_any wr hd
        · exact take_any wr hd
        · exact move_any wr hd
      have HFS := Lib.hid (HO1.out k hlt HJ.out)
      have HFN := Lib.hid (fun h => show ∀ j, j < k + 1 → (kdP t u (nkL t u 24 1) (nkL t u 24 2) (nkL t u 24 3) (nkL t u 24 4) lost won j).2 = false from fun j hj => by
        by_cases q : j = k
        · rw [q]
          exact h
        · exact HJ.out j (by omega))
      have hcf := (HKF.out.below HBR.out).cell k
      obtain ⟨P, hP⟩ : ∃ P, kdP t u (nkL t u 24 1) (nkL t u 24 2) (nkL t u 24 3) (nkL t u 24 4) lost won k = P := ⟨_, rfl⟩
      rw [hP] at HKX HFS HFN
      obtain ⟨c, q⟩ := P
      unfold KdA at HKX
      have HKX := Lib.hid HKX
      clear hP
      have h6 : k = 0 ∨ k = 1 ∨ k = 2 ∨ k = 3 ∨ k = 4 ∨ k = 5 ∨ k = 6 := by omega
      obtain ⟨m, hm⟩ : ∃ m, k + 1 = m := ⟨_, rfl⟩
      have HMM := Lib.hid hm
      clear HO1 HO2 HJ hm
      rcases h6 with rfl | rfl | rfl | rfl | rfl | rfl | rfl
      all_goals (
        simp at hcf
        cases q
        · go_wp2_with fail
          refine HKX.out.mono ?_
          rintro e w5 ⟨rfl, hb5⟩
          have HB5 := Lib.hid (bt (bt (ba w5 (.cells (chC c) 36)) hb5) HBR.out)
          have HFN2 := Lib.hid (HFN.out (by trivial))
          clear hb5
          go_wp2
          go_roundg (7 - m)
          case measure => (have hmm := HMM.out; omega)
          case rel => (have hmm := HMM.out; subst hmm; exact ⟨_, by first | rfl | go_num, by omega, rfl, HFN2.out, HB5.out⟩)
        · go_wp2_with fail
          refine HKX.out.mono ?_
          rintro e w5 ⟨rfl, hb5⟩
          have HXC := Lib.hid (HFS.out (by trivial))
          obtain ⟨z8, hz8⟩ : ∃ z, w5.heap.size = z := ⟨_, rfl⟩
          have hk8 := Blk.new w5 36 (chC c)
          have hb6 := bt (ba w5 (.cells (chC c) 36)) hb5
          have hk0' := HK0'.out.below hb6
          have hbw6 := bt hb6 HBW.out
          obtain ⟨W6, hW6⟩ : ∃ W, w5.alloc (.cells (chC c) 36) = W := ⟨_, rfl⟩
          rw [hz8] at hk8
          rw [hW6] at hk8 hb6 hk0' hbw6
          unfold chC at hW6
          obtain ⟨p0, p1, p2, p3, p4, p5, p6⟩ := hk0'.c7
          obtain ⟨f0, f1, f2, f3, f4, f5, f6⟩ := hk0'.f7
          obtain ⟨s0, s1, s2, s3, s4, s5, s6⟩ := hk0'.s7
          obtain ⟨n0, n1, n2, n3, n4, n5, n6⟩ := hk8.c7
          have HE := Lib.hid (below_grown hbw6 (grown_ch W6 w.heap.size c) (Nat.le_refl _))
          clear hk0' hk8 hb5 hb6 hbw6
          go_wp2
          exact bodyPost_ret (v := .agg (chC c)) (by simp [results, Tryz.results13, go_sem, s0, s1, s2, s3, s4, s5, s6]) rfl ⟨by rw [HXC.out], HE.out⟩)
    · have hlt' : ¬ (k : Int) < 7 := by omega
      have hk7 : k = 7 := by omega
      subst hk7
      have HX := Lib.hid (HO2.out HJ.out)
      obtain ⟨p0, p1, p2, p3, p4, p5, p6⟩ := HK0'.out.c7
      obtain ⟨f0, f1, f2, f3, f4, f5, f6⟩ := HK0'.out.f7
      obtain ⟨s0, s1, s2, s3, s4, s5, s6⟩ := HK0'.out.s7
      have HE := Lib.hid (below_grown HBW.out (grown7 wr w.heap.size (.int .i64 7) (.int .i64 0) (.int .i64 0) (.string ⟨#[]⟩) (.int .i64 0) (.string ⟨#[]⟩) (.int .i64 0)) (Nat.le_refl _))
      go_wp2
      exact bodyPost_ret (v := .agg #[.int .i64 7, .int .i64 0, .int .i64 0, .string ⟨#[]⟩, .int .i64 0, .string ⟨#[]⟩, .int .i64 0]) (by simp [results, Tryz.results13, go_sem, s0, s1, s2, s3, s4, s5, s6]) rfl ⟨by rw [HX.out]; rfl, HE.out⟩
end Go.Proofs.YtnkjaocmfhjnoaaGreat
namespace Go.Proofs.YtnkjaocmfhjnoaaGreat
open Go Go.RowKit
set_option maxRecDepth 100000

def fzD (k m u g : Int) (d : List UInt8) (e : List En) (tg : Nm) : Nd := ⟨k, m, u, g, d, e, tg⟩
theorem fz_dir {m u g : Int} (h1 : 0 ≤ m ∧ m ≤ 4095) (h2 : 0 ≤ u ∧ u ≤ 65535) (h3 : 0 ≤ g ∧ g ≤ 65535) : rightP (fzD 2 m u g [] [] []) := ⟨⟨h1, h2, h3⟩, .inr (.inl ⟨rfl, rfl, rfl, ents_nil⟩)⟩
end Go.Proofs.YtnkjaocmfhjnoaaGreat
namespace Go.Proofs.YtnkjaocmfhjnoaaGreat
open Go Go.RowKit
set_option maxRecDepth 100000

def cx0 : Rw := ⟨2, 493, 0, 0, 0, [], [], [], 0⟩
def cx1 : Rw := ⟨1, 0, 0, 0, 1, [102], [], [], 0⟩
def cxA : List Nd := [fzD 2 493 0 0 [] [] [], Nd.zero, Nd.zero, Nd.zero, Nd.zero, Nd.zero, Nd.zero, Nd.zero, Nd.zero]
def cxB : List Nd := [fzD 2 493 0 0 [] [([102], 2)] [], fzD 1 0 0 0 [] [] [], Nd.zero, Nd.zero, Nd.zero, Nd.zero, Nd.zero, Nd.zero, Nd.zero]
def cxC (n : Nm) : List Nd := [fzD 2 493 0 0 [] [([102], 2), (n, 3)] [], fzD 1 0 0 0 [] [] [], fzD 2 493 0 0 [] [] [], Nd.zero, Nd.zero, Nd.zero, Nd.zero, Nd.zero, Nd.zero]
theorem cx_all : bldA 9 [cx0, cx1] = .good cxB := by
  have r0 : rightP cx0.nd := fz_dir (by decide) (by decide) (by decide)
  have r1 : rightP cx1.nd := ⟨⟨by decide, by decide, by decide⟩, .inl ⟨rfl, rfl, rfl, by decide⟩⟩
  have h0 : rtE (newN 9) cx0 = 0 := rt_zero.2 ⟨rfl, rfl, rfl, r0, by rw [new_free]; decide⟩
  have e0 : rtT (newN 9) cx0 = cxA := rfl
  rw [bldA, if_pos h0, e0, bld]
  have k1 : enE cxA cx1 = 0 := en_zero.2 (.inr ⟨by decide, r1, by decide⟩)
  have i1 : enI cxA cx1 = 2 := by unfold enI; rw [if_pos k1]; rfl
  have w1 : withE (tget cxA 1) [102] 2 = 0 := by decide
  have h1 : blE cxA cx1 = 0 := bl_zero.2 ⟨rfl, k1, by rw [i1]; exact w1⟩
  have e1 : blT cxA cx1 = cxB := by
    unfold blT enT
    rw [if_pos k1, i1]
    rfl
  rw [if_pos h1, e1, bld]
theorem cx_trx : Trx cxB := (tre_all cx_all).1
theorem cx_r0 : resM cxB wh0 [120] false = (⟨1, [120], 0⟩, 0) := by
  have h1 : fitE cxB [120] = 0 := by decide +kernel
  have h2 : splitP [120] = [[120]] := by decide +kernel
  have f1 : fnd (tget cxB 1).ents [120] = 0 := by decide +kernel
  have s1 : srE cxB wh0 1 = 0 := by decide +kernel
  unfold resM
  rw [if_neg (fun q => q h1), h2, wlk_last s1 (by decide) (by decide) (by decide) (by rw [f1]; exact fun q => absurd q.1 (by decide +kernel)) rfl, f1]
theorem cx_r1 : resM (cxC [120]) wh0 [120] false = (⟨1, [120], 3⟩, 0) := by
  have h1 : fitE (cxC [120]) [120] = 0 := by decide +kernel
  have h2 : splitP [120] = [[120]] := by decide +kernel
  have f1 : fnd (tget (cxC [120]) 1).ents [120] = 3 := by decide +kernel
  have s1 : srE (cxC [120]) wh0 1 = 0 := by decide +kernel
  unfold resM
  rw [if_neg (fun q => q h1), h2, wlk_last s1 (by decide) (by decide) (by decide) (by rw [f1]; exact fun q => absurd q.1 (by decide +kernel)) rfl, f1]
theorem cx_r2 : resM (cxC [120]) wh0 [121] false = (⟨1, [121], 0⟩, 0) := by
  have h1 : fitE (cxC [120]) [121] = 0 := by decide +kernel
  have h2 : splitP [121] = [[121]] := by decide +kernel
  have f1 : fnd (tget (cxC [120]) 1).ents [121] = 0 := by decide +kernel
  have s1 : srE (cxC [120]) wh0 1 = 0 := by decide +kernel
  unfold resM
  rw [if_neg (fun q => q h1), h2, wlk_last s1 (by decide) (by decide) (by decide) (by rw [f1]; exact fun q => absurd q.1 (by decide +kernel)) rfl, f1]
def cxM : Cal := ⟨8, [120], [], 493, 0, []⟩
def cxN : Cal := ⟨12, [120], [121], 0, 0, []⟩
def cxP : Prm := ⟨wh0, 0, [Fdm.zero, Fdm.zero, Fdm.zero]⟩
theorem cx_new : newS cxB 0 [wh0] = ⟨cxB, [cxP]⟩ := rfl
theorem cx_mk : mkE cxB wh0 0 [120] 493 = 0 ∧ mkT cxB wh0 0 [120] 493 = cxC [120] := by
  have hm : mkM 493 0 = 493 := by decide +kernel
  have hr : rightP (plR cxB wh0 ⟨1, [120], 0⟩ 2 493 []).nd := fz_dir (by decide +kernel) (by decide) (by decide +kernel)
  have hz : plE cxB wh0 (⟨1, [120], 0⟩, 0) 2 493 [] = 0 := pl_zero.2 ⟨rfl, rfl, by decide +kernel, ⟨by decide +kernel, by decide +kernel⟩, hr⟩
  unfold mkE mkT
  rw [cx_r0, hm]
  refine ⟨hz, ?_⟩
  have e0 : plT cxB wh0 (⟨1, [120], 0⟩, 0) 2 493 [] = blT cxB (plR cxB wh0 ⟨1, [120], 0⟩ 2 493 []) := if_pos hz
  have k1 : enE cxB (plR cxB wh0 ⟨1, [120], 0⟩ 2 493 []) = 0 := en_zero.2 (.inr ⟨by decide, hr, by decide +kernel⟩)
  have i1 : enI cxB (plR cxB wh0 ⟨1, [120], 0⟩ 2 493 []) = 3 := by unfold enI; rw [if_pos k1]; rfl
  rw [e0]
  unfold blT enT
  rw [if_pos k1, i1]
  rfl
theorem cx_mv : mvE (cxC [120]) wh0 (⟨1, [120], 3⟩, 0) (⟨1, [121], 0⟩, 0) = 0 ∧ mvT (cxC [120]) wh0 (⟨1, [120], 3⟩, 0) (⟨1, [121], 0⟩, 0) [] = cxC [121] := by
  have h0 : mvE (cxC [120]) wh0 (⟨1, [120], 3⟩, 0) (⟨1, [121], 0⟩, 0) = 0 := by decide +kernel
  refine ⟨h0, ?_⟩
  unfold mvT
  rw [if_neg (fun q => q.elim (fun z => z h0) (fun z => absurd z (by decide)))]
  rfl
theorem cx_do1 : doS ⟨cxB, [cxP]⟩ 0 cxM = (⟨cxC [120], [cxP]⟩, Rsm.e 0) := by
  show ((⟨mkT cxB wh0 0 [120] 493, [cxP]⟩ : Sym), Rsm.e (mkE cxB wh0 0 [120] 493)) = _
  rw [cx_mk.1, cx_mk.2]
theorem cx_do2 : doS ⟨cxC [120], [cxP]⟩ 0 cxN = (⟨cxC [121], [cxP]⟩, Rsm.e 0) := by
  show ((⟨mvT (cxC [120]) wh0 (resM (cxC [120]) wh0 [120] false) (resM (cxC [120]) wh0 [121] false) [], [cxP]⟩ : Sym), Rsm.e (mvE (cxC [120]) wh0 (resM (cxC [120]) wh0 [120] false) (resM (cxC [120]) wh0 [121] false))) = _
  rw [cx_r1, cx_r2, cx_mv.1, cx_mv.2]
theorem cx_make (n : Nm) (hn : ¬ n ∈ nmE (tget cxB 1).ents) (he : ins (n, 3) (tget cxB 1).ents = [([102], 2), (n, 3)]) : ofC cxB (cxC n) = ⟨3, 3, 1, n, 0, [], 0⟩ := by
  refine of_make (d := 1) (i := 3) (by decide) (by decide) (fun j h1 h2 => ?_) rfl (show (2 : Int) ≠ 0 by decide) rfl ?_ hn
  · by_cases q : 1 ≤ j ∧ j ≤ 9
    · have : j = 2 ∨ j = 4 ∨ j = 5 ∨ j = 6 ∨ j = 7 ∨ j = 8 ∨ j = 9 := by omega
      rcases this with rfl | rfl | rfl | rfl | rfl | rfl | rfl <;> rfl
    · rw [tget_out (by show ¬ (1 ≤ j ∧ j ≤ (9 : Nat)); omega), tget_out (by show ¬ (1 ≤ j ∧ j ≤ (9 : Nat)); omega)]
  · rw [he]
    rfl
theorem cx_o1 : ofC cxB (cxC [120]) = ⟨3, 3, 1, [120], 0, [], 0⟩ := cx_make _ (by decide) (by decide)
theorem cx_o3 : ofC cxB (cxC [121]) = ⟨3, 3, 1, [121], 0, [], 0⟩ := cx_make _ (by decide) (by decide)
theorem cx_i0 : Inv ⟨cxB, [cxP]⟩ := by
  rw [← cx_new]
  exact inv_new cx_trx 0 (fun c hc => by
    simp only [List.mem_cons, List.not_mem_nil, or_false] at hc
    subst hc
    decide)
theorem cx_i1 : Inv ⟨cxC [120], [cxP]⟩ := by
  have h := inv_do cx_i0 0 cxM
  rw [cx_do1] at h
  exact h
theorem cx_o2 : ofC (cxC [120]) (cxC [121]) = ⟨5, 3, 1, [120], 1, [121], 0⟩ := by
  have ho := cx_i1.tro.ok
  have m := (mv3_is (t := cxC [120]) ho (d := 1) (i := 3) (D := 1) (k := 0) (n := [120]) (N := [121]) rfl (by decide) (by decide) rfl (by decide) (by decide) (by decide +kernel) (fun _ q => absurd rfl q)).1
  have e : mv3 (cxC [120]) 1 [120] 3 1 [121] 0 = cxC [121] := rfl
  rw [e] at m
  exact of_move ho (by decide) m (by decide) (by decide) rfl rfl (by decide) (by decide) rfl (fun q => absurd rfl q) (fun _ _ => rfl) (.inl rfl)
end Go.Proofs.YtnkjaocmfhjnoaaGreat
namespace Go.Proofs.YtnkjaocmfhjnoaaGreat
open Go Go.RowKit
set_option maxRecDepth 100000

attribute [local go_sem] cell_off4 cell_blk4
structure SysD (R : World → Value → Sym → List Nat → Prop) : Prop where
  lt : ∀ (w : World) (v : Value) (S : Sym) (l : List Nat), R w v S l → ∀ b ∈ l, b < w.heap.size
  below : ∀ (w w' : World) (v : Value) (S : Sym) (l : List Nat), R w v S l → Below w.heap.size w w' → R w' v S l
  new : ∀ (g : Nat) (t : List Nd) (P : Nat → Prop) (um : Int) (vc : Value) (cs : List Wh) (w : World), TabR w g t P → CdsR w vc cs → (∀ c ∈ cs, c.gs.length ≤ 1048576) → cs.length ≤ 1048576 →
    Calls Tryz.prog 16 #[.pointer (some ⟨g, 0, none⟩), .int .i64 um, vc] w fun e w' => ∃ v l, e = .returned v ∧ R w' v (newS t um cs) l ∧ (∀ b ∈ l, w.heap.size ≤ b) ∧ Below w.heap.size w w'
  dos : ∀ (v : Value) (S : Sym) (l : List Nat) (pid : Int) (c : Cal) (vd : Value) (w : World), (c.kind = 8 ∨ c.kind = 12) → R w v S l → Inv S → (opnS S).length ≤ 1000 → BytesR w vd c.data → shortC c →
    Calls Tryz.prog 18 #[v, .int .i64 pid, .agg (calC c vd)] w (DoA R w v (doS S pid c).1 (doS S pid c).2 l)
  tab : ∀ (v : Value) (S : Sym) (l : List Nat) (w : World), R w v S l →
    Calls Tryz.prog 17 #[v] w fun e w' => ∃ g, e = .returned (.pointer (some ⟨g, 0, none⟩)) ∧ w.heap.size ≤ g ∧ TabR w' g S.t (fun b => w.heap.size ≤ b) ∧ Below w.heap.size w w'
theorem eq_chg (a0 a1 a2 a4 a6 b0 b1 b2 b4 b6 : Int) (a3 a5 b3 b5 : ByteArray) (w : World) : (Op.equalIn 10000 36 (.agg #[.int .i64 a0, .int .i64 a1, .int .i64 a2, .string a3, .int .i64 a4, .string a5, .int .i64 a6]) (.agg #[.int .i64 b0, .int .i64 b1, .int .i64 b2, .string b3, .int .i64 b4, .string b5, .int .i64 b6])).run Tryz.prog w = .ok (a0 == b0 && (a1 == b1 && (a2 == b2 && (a3.toList == b3.toList && (a4 == b4 && (a5.toList == b5.toList && a6 == b6)))))) w := by
  have hS : Tryz.prog.underlying 36 = some (.struct (Tryz.prog.fieldsOf 36)) := by kernel_rfl
  rw [show (10000 : Nat) = 9999 + 1 from rfl, run_equalIn_agg w 9999 36 _ _ hS (by kernel_rfl)]
  have u5 := Tryz.underlying3
  have u9 := Tryz.underlying9
  simp only [Program.fieldsOf, Tryz.underlying36]
  go_simp
  by_cases h0 : a0 = b0 <;> by_cases h1 : a1 = b1 <;> by_cases h2 : a2 = b2 <;> by_cases h3 : a3.toList = b3.toList <;> by_cases h4 : a4 = b4 <;> by_cases h5 : a5.toList = b5.toList <;> by_cases h6 : a6 = b6 <;> simp [h0, h1, h2, h3, h4, h5, h6]
theorem chg_kind (x : Int) (a1 a2 a3 a4 a5 a6 : Value) (w : World) : (Instr.field 36 (.agg #[.int .i64 x, a1, a2, a3, a4, a5, a6]) 0).run Tryz.prog w = .ok (.int .i64 x) w := by kernel_rfl
attribute [local go_sem] eq_chg chg_kind
theorem raws_row18 {w : World} {g : Nat} {t : TypeId} (ps : List (Rw × Value)) (n c : Nat) (hn : ps.length = n) (h : Blk w g t (rCells ps).toArray) (hd : ∀ q ∈ ps, BytesR w q.2 q.1.data) : RawsR w (.slice (some ⟨g, 0, none⟩) n c) (ps.map Prod.fst) := by
  subst hn
  refine ⟨some ⟨g, 0, none⟩, c, by rw [List.length_map], fun k r hk => ?_⟩
  rw [List.getElem?_map] at hk
  obtain ⟨q, hq, rfl⟩ := Option.map_eq_some_iff.1 hk
  have key : ∀ j u, j < 9 → (rwC q.1 q.2).toList[j]? = some u → w.cell? ⟨g, k * 9 + j, none⟩ = some u := fun j u hj hu => by
    rw [h.cell, List.getElem?_toArray, rCells_at ps k j q hq hj]; exact hu
  have e0 : (⟨g, 0, none⟩ : Addr).add (k * 9) = ⟨g, k * 9, none⟩ := add_lit _ _
  refine ⟨⟨g, 0, none⟩, q.2, rfl, ?_, ?_, hd q (List.mem_of_getElem? hq)⟩
  · rw [e0]; exact key 0 _ (by decide) rfl
  · rw [e0]
    exact ⟨key 1 _ (by decide) rfl, key 2 _ (by decide) rfl, key 3 _ (by decide) rfl, key 4 _ (by decide) rfl, key 5 _ (by decide) rfl, key 6 _ (by decide) rfl, key 7 _ (by decide) rfl, key 8 _ (by decide) rfl⟩
theorem cds_one {W : World} {z : Nat} (h : Blk W z 30 #[.int .i64 0, .int .i64 0, .slice none 0 0]) : CdsR W (.slice (some ⟨z, 0, none⟩) 1 1) [wh0] := by
  have e : ∀ j, (⟨z, 0, none⟩ : Addr).add j = ⟨z, j, none⟩ := fun j => by unfold Addr.add; by_cases hk : j = 0 <;> simp [hk]
  refine ⟨some ⟨z, 0, none⟩, 1, rfl, fun k r hk => ?_⟩
  match k, hk with
  | 0, hk =>
    have hr : r = wh0 := by simpa using hk.symm
    subst hr
    exact ⟨_, none, 0, 0, rfl, by rw [e]; exact h.cell 0, by rw [e]; exact h.cell 1, by rw [e]; exact h.cell 2, IntsR.nil W⟩
  | k + 1, hk => simp at hk
def cxRow : List (Rw × Value) := [(cx0, .slice none 0 0), (cx1, .slice none 0 0)]
theorem dos_e18 {R : World → Value → Sym → List Nat → Prop} (H : SysD R) {v : Value} {S S' : Sym} {r : Rsm} {l : List Nat} {pid : Int} {c : Cal} {w : World} (hk : c.kind = 8 ∨ c.kind = 12) (he : doS S pid c = (S', r)) (hr : R w v S l) (hi : Inv S) (hn : (opnS S).length ≤ 1000) (hd : c.data = []) (hs : shortC c) :
    Calls Tryz.prog 18 #[v, .int .i64 pid, .agg (calC c (.slice none 0 0))] w (DoA R w v S' r l) := by
  have h := H.dos v S l pid c (.slice none 0 0) w hk hr hi hn (by rw [hd]; exact BytesR.nil w) hs
  rw [he] at h
  exact h
set_option maxHeartbeats 16000000 in
theorem awk18_any {R : World → Value → Sym → List Nat → Prop} (H : SysD R) (w : World) :
    Calls Tryz.prog 7 #[] w fun e w' => e = .returned (.bool true) ∧ Below w.heap.size w w' := by
  have HPD := Lib.hid H
  have hb1 := ba w (.cells (rCells cxRow).toArray 76)
  have hr1 : RawsR (w.alloc (.cells (rCells cxRow).toArray 76)) (.slice (some ⟨w.heap.size, 0, none⟩) 2 2) [cx0, cx1] := raws_row18 cxRow 2 2 rfl (Blk.new w 76 _) (fun q hq => by
    unfold cxRow at hq
    simp only [List.mem_cons, List.not_mem_nil, or_false] at hq
    rcases hq with rfl | rfl <;> exact BytesR.nil _)
  have HC1 := Lib.hid (build_any 9 _ [cx0, cx1] _ hr1 ⟨fun r hr => by
    simp only [List.mem_cons, List.not_mem_nil, or_false] at hr
    rcases hr with rfl | rfl <;> exact ⟨by decide, by decide, by decide⟩, by decide⟩)
  rw [cx_all] at HC1
  have HB1 := Lib.hid hb1
  clear hb1 hr1 H
  go_enter Tryz.func7, Tryz.ntmps7
  go_wp2_with fail
  refine HC1.out.mono ?_
  rintro e w2 ⟨⟨g, rfl, ht, hg⟩, hb⟩
  have hax := ba w2 (.cells #[.int .i64 0, .int .i64 0, .slice none 0 0] 30)
  have HB3 := Lib.hid (bt (bt hax hb) HB1.out)
  have HT3 := Lib.hid (ht.below hax)
  have HNW := Lib.hid (HPD.out.new g cxB _ 0 _ [wh0] _ HT3.out (cds_one (Blk.new w2 30 #[.int .i64 0, .int .i64 0, .slice none 0 0])) (fun c hc => by
    simp only [List.mem_cons, List.not_mem_nil, or_false] at hc
    subst hc
    decide) (by decide))
  obtain ⟨W3, hW3⟩ : ∃ W, w2.alloc (.cells #[.int .i64 0, .int .i64 0, .slice none 0 0] 30) = W := ⟨_, rfl⟩
  rw [hW3] at HB3 HT3 HNW
  clear ht hb hax HC1 HB1 hg
  go_wp2_with fail
  clear hW3
  refine HNW.out.mono ?_
  rintro e w4 ⟨v, l, rfl, hr4, hl4, hb4⟩
  rw [cx_new] at hr4
  have HL := Lib.hid (show ∀ b ∈ l, w.heap.size ≤ b from fun b hb => Nat.le_trans HB3.out.size (hl4 b hb))
  have HX4 := Lib.hid (bt hb4 HB3.out)
  have HR4 := Lib.hid hr4
  have HTA := Lib.hid (HPD.out.tab v _ l w4 hr4)
  clear hr4 hl4 hb4 HNW HB3 HT3
  -- a
  go_wp2_with fail
  refine HTA.out.mono ?_
  rintro e w5 ⟨ga, rfl, hga, hta, hb5⟩
  have HR5 := Lib.hid (HPD.out.below _ _ _ _ _ HR4.out hb5)
  have HX5 := Lib.hid (bt hb5 HX4.out)
  have HNA := Lib.hid (show (¬ ga ∈ l) ∧ ∀ b, w4.heap.size ≤ b → ¬ b ∈ l from ⟨fun q => by have := HPD.out.lt _ _ _ _ HR4.out _ q; omega, fun b hb q => by have := HPD.out.lt _ _ _ _ HR4.out _ q; omega⟩)
  have HTT := Lib.hid hta
  have hdo := dos_e18 HPD.out (.inl rfl) cx_do1 HR5.out cx_i0 (by decide +kernel) rfl ⟨by decide, by decide, by decide⟩
  have HDO := Lib.hid (show Calls Tryz.prog 18 #[v, .int .i64 0, .agg #[.int .i64 8, .string ⟨#[120]⟩, .string ⟨#[]⟩, .int .i64 493, .int .i64 0, .slice none 0 0]] w5 (DoA R w5 v ⟨cxC [120], [cxP]⟩ (Rsm.e 0) l) from hdo)
  clear hga hta hb5 hdo HTA HR4 HX4
  go_wp2_with fail
  refine HDO.out.mono ?_
  rintro e w6 ⟨A1, n1, c1, A2, n2, c2, rfl, -, hr6, hf6⟩
  have HTA6 := Lib.hid (hf6.tab HTT.out HNA.out.1 HNA.out.2)
  have HX6 := Lib.hid (hf6.below HX5.out HL.out)
  have HR6 := Lib.hid hr6
  have HTB := Lib.hid (HPD.out.tab v _ l w6 hr6)
  clear hr6 hf6 HDO HR5 HX5 HTT
  -- b
  go_wp2_with fail
  refine HTB.out.mono ?_
  rintro e w7 ⟨gb, rfl, hgb, htb, hb7⟩
  have HTA7 := Lib.hid (HTA6.out.below hb7)
  have HR7 := Lib.hid (HPD.out.below _ _ _ _ _ HR6.out hb7)
  have HX7 := Lib.hid (bt hb7 HX6.out)
  have HNB := Lib.hid (show (¬ gb ∈ l) ∧ ∀ b, w6.heap.size ≤ b → ¬ b ∈ l from ⟨fun q => by have := HPD.out.lt _ _ _ _ HR6.out _ q; omega, fun b hb q => by have := HPD.out.lt _ _ _ _ HR6.out _ q; omega⟩)
  have HTT := Lib.hid htb
  have hdo := dos_e18 HPD.out (.inr rfl) cx_do2 HR7.out cx_i1 (by decide +kernel) rfl ⟨by decide, by decide, by decide⟩
  have HDO := Lib.hid (show Calls Tryz.prog 18 #[v, .int .i64 0, .agg #[.int .i64 12, .string ⟨#[120]⟩, .string ⟨#[121]⟩, .int .i64 0, .int .i64 0, .slice none 0 0]] w7 (DoA R w7 v ⟨cxC [121], [cxP]⟩ (Rsm.e 0) l) from hdo)
  clear hgb htb hb7 hdo HTB HR6 HX6 HTA6
  go_wp2_with fail
  refine HDO.out.mono ?_
  rintro e w8 ⟨A1, n1, c1, A2, n2, c2, rfl, -, hr8, hf8⟩
  have HTA8 := Lib.hid (hf8.tab HTA7.out HNA.out.1 HNA.out.2)
  have HTB8 := Lib.hid (hf8.tab HTT.out HNB.out.1 HNB.out.2)
  have HX8 := Lib.hid (hf8.below HX7.out HL.out)
  have HTC := Lib.hid (HPD.out.tab v _ l w8 hr8)
  clear hr8 hf8 HDO HR7 HX7 HTT HTA7
  -- c
  go_wp2_with fail
  refine HTC.out.mono ?_
  rintro e w9 ⟨gc, rfl, hgc, htc, hb9⟩
  have HPA := Lib.hid (HTA8.out.below hb9).ptr
  have HPB := Lib.hid (HTB8.out.below hb9).ptr
  have HPC := Lib.hid htc.ptr
  have HX9 := Lib.hid (bt hb9 HX8.out)
  have HO1 := Lib.hid (show ∀ V, Below w9.heap.size w9 V → Calls Tryz.prog 13 #[.pointer (some ⟨ga, 0, none⟩), .pointer (some ⟨gb, 0, none⟩)] V fun e w' => e = .returned (.agg #[.int .i64 3, .int .i64 3, .int .i64 1, .string ⟨#[120]⟩, .int .i64 0, .string ⟨#[]⟩, .int .i64 0]) ∧ Below V.heap.size V w' from fun V hv => by
    have h := chOf_any _ _ _ _ V (HPA.out.below hv) (HPB.out.below hv)
    rw [cx_o1] at h
    exact h)
  have HO2 := Lib.hid (show ∀ V, Below w9.heap.size w9 V → Calls Tryz.prog 13 #[.pointer (some ⟨gb, 0, none⟩), .pointer (some ⟨gc, 0, none⟩)] V fun e w' => e = .returned (.agg #[.int .i64 5, .int .i64 3, .int .i64 1, .string ⟨#[120]⟩, .int .i64 1, .string ⟨#[121]⟩, .int .i64 0]) ∧ Below V.heap.size V w' from fun V hv => by
    have h := chOf_any _ _ _ _ V (HPB.out.below hv) (HPC.out.below hv)
    rw [cx_o2] at h
    exact h)
  have HO3 := Lib.hid (show ∀ V, Below w9.heap.size w9 V → Calls Tryz.prog 13 #[.pointer (some ⟨gc, 0, none⟩), .pointer (some ⟨gc, 0, none⟩)] V fun e w' => e = .returned (.agg #[.int .i64 0, .int .i64 0, .int .i64 0, .string ⟨#[]⟩, .int .i64 0, .string ⟨#[]⟩, .int .i64 0]) ∧ Below V.heap.size V w' from fun V hv => by
    have h := chOf_any _ _ _ _ V (HPC.out.below hv) (HPC.out.below hv)
    rw [ofC_refl] at h
    exact h)
  have HO4 := Lib.hid (show ∀ V, Below w9.heap.size w9 V → Calls Tryz.prog 13 #[.pointer (some ⟨ga, 0, none⟩), .pointer (some ⟨gc, 0, none⟩)] V fun e w' => e = .returned (.agg #[.int .i64 3, .int .i64 3, .int .i64 1, .string ⟨#[121]⟩, .int .i64 0, .string ⟨#[]⟩, .int .i64 0]) ∧ Below V.heap.size V w' from fun V hv => by
    have h := chOf_any _ _ _ _ V (HPA.out.below hv) (HPC.out.below hv)
    rw [cx_o3] at h
    exact h)
  clear hgc htc hb9 HTC HX8 HTA8 HTB8 HPA HPB HPC HNA HNB HL HPD
  go_wp2_with fail
  refine (HO1.out _ (Below.refl _ _)).mono ?_
  rintro e w10 ⟨rfl, hb10⟩
  have J10 := Lib.hid hb10
  clear hb10 HO1
  go_wp2_with fail
  refine (HO2.out _ J10.out).mono ?_
  rintro e w11 ⟨rfl, hb11⟩
  have J11 := Lib.hid (bt hb11 J10.out)
  clear hb11 HO2 J10
  go_wp2_with fail
  refine (HO3.out _ J11.out).mono ?_
  rintro e w12 ⟨rfl, hb12⟩
  have J12 := Lib.hid (bt hb12 J11.out)
  clear hb12 HO3 J11
  go_wp2_with fail
  refine (HO4.out _ J12.out).mono ?_
  rintro e w13 ⟨rfl, hb13⟩
  have J13 := Lib.hid (bt (bt hb13 J12.out) HX9.out)
  clear hb13 HO4 J12 HX9
  go_wp2
  go_ret
  exact ⟨rfl, J13.out⟩
end Go.Proofs.YtnkjaocmfhjnoaaGreat
namespace Go.Proofs.YtnkjaocmfhjnoaaGreat
open Go Go.RowKit
set_option maxRecDepth 100000

theorem cf_mkdir (args : Array Value) (W : World) : (callFunc 74 args).run Tryz.prog W = .ok (.enter 74 args) W := by
  first | (simp only [go_sem]; done) | rfl
theorem cf_rename (args : Array Value) (W : World) : (callFunc 78 args).run Tryz.prog W = .ok (.enter 78 args) W := by
  first | (simp only [go_sem]; done) | rfl
theorem kind_two (k : Int) (h : k = 8 ∨ k = 12) : ∃ (F : FuncId) (n i : Nat), k = (n : Int) ∧ 1 ≤ n ∧ n ≤ 18 ∧ Instr.findNow (.int .i64) (.int .i64 k) ces.toList 0 = some (some (i, .func (.func F) #[] #[])) ∧ MtC F n ∧ ∀ (args : Array Value) (W : World), (callFunc F args).run Tryz.prog W = .ok (.enter F args) W := by
  rcases h with rfl | rfl
  · exact ⟨74, 8, 7, rfl, by decide, by decide, rfl, m_mkdir, cf_mkdir⟩
  · exact ⟨78, 12, 11, rfl, by decide, by decide, rfl, m_rename, cf_rename⟩
theorem prI_none {S : Sym} {pid : Int} (h : prI S pid = none) : pid < 0 ∨ (S.p.length : Int) ≤ pid := by
  unfold prI at h
  by_cases q : 0 ≤ pid
  · rw [if_pos q] at h
    have := List.getElem?_eq_none_iff.1 h
    omega
  · omega
theorem sysr_blk {w : World} {v : Value} {S : Sym} {l : List Nat} (h : SysR w v S l) : ∃ (s g : Nat) (A : Option Addr) (c : Nat), v = .pointer (some ⟨s, 0, none⟩) ∧ Blk w s 109 #[.pointer (some ⟨g, 0, none⟩), .slice A S.p.length c] ∧ TabR w g S.t (fun _ => True) ∧ (∀ pid p, prI S pid = some p → ∃ b lb, A = some ⟨b, 0, none⟩ ∧ l = [g, b] ∧ lb = c ∧ Sq w s g b lb S) := by
  obtain ⟨s, g, rfl, ⟨h1, h2, ht, A, c, hk⟩ | ⟨b, c, hs, rfl⟩⟩ := h
  · refine ⟨s, g, A, c, rfl, by rw [h1]; exact hk, ht, fun pid p hp => ?_⟩
    have := (prI_at hp).1
    rw [h1] at this
    simp at this
  · exact ⟨s, g, some ⟨b, 0, none⟩, c, rfl, hs.blk, hs.tab, fun pid p _ => ⟨b, c, rfl, rfl, rfl, hs⟩⟩
theorem prI_nat {S : Sym} {pid : Int} {p : Prm} (h : prI S pid = some p) : ∃ k : Nat, pid = (k : Int) ∧ S.p[k]? = some p := by
  obtain ⟨h1, h2⟩ := prI_at h
  exact ⟨pid.toNat, by omega, h1⟩
theorem sdo_bad {w : World} {v : Value} {S : Sym} {l : List Nat} (h : SysR w v S l) {X : Sym × Rsm} (hX : X = (S, Rsm.e 22)) {e : Ending} {w' : World} (he : e = .returned (.agg (resC (Rsm.e 22) (.slice none 0 0) (.slice none 0 0))) ∧ Below w.heap.size w w') : DoA SysR w v X.1 X.2 l e w' := by
  subst hX
  obtain ⟨rfl, hb⟩ := he
  exact ⟨none, 0, 0, none, 0, 0, rfl, ⟨strs_none w', BytesT.nil w', fun ad q => by cases q⟩, sysr_below _ _ _ _ _ h hb, Fix.of_below hb⟩
theorem sdo_two (v : Value) (S : Sym) (l : List Nat) (pid : Int) (c : Cal) (vd : Value) (w : World) (hk2 : c.kind = 8 ∨ c.kind = 12) (hR : SysR w v S l) (hI : Inv S) (hn : (opnS S).length ≤ 1000) (hd : BytesR w vd c.data) (hsh : shortC c) :
    Calls Tryz.prog 18 #[v, .int .i64 pid, .agg (calC c vd)] w (DoA SysR w v (doS S pid c).1 (doS S pid c).2 l) := by
  obtain ⟨s, g, A, cp, rfl, hk, ht, hP⟩ := sysr_blk hR
  cases hp : prI S pid with
  | none =>
    have hX : doS S pid c = (S, Rsm.e 22) := by unfold doS; rw [hp]
    have hpc : ∀ V, Below w.heap.size w V → Calls Tryz.prog 46 #[.pointer (some ⟨s, 0, none⟩), .int .i64 pid] V fun e w' => e = .returned (.pointer none) ∧ V = w' := fun V hv => proc_none s S.p.length cp _ A pid V (hk.below hv) (prI_none hp)
    obtain ⟨F, n, i, -, -, -, hf, -, -⟩ := kind_two c.kind hk2
    exact (do_err s pid c vd (.pointer none) (.func (.func F) #[] #[]) w hpc (fun V bm hb => lookC c.kind _ V bm hb hf) (.inl rfl)).mono (fun e w' he => sdo_bad hR hX he)
  | some p =>
    obtain ⟨b, cb, hA, rfl, rfl, hs⟩ := hP pid p hp
    obtain ⟨k, rfl, hpk⟩ := prI_nat hp
    obtain ⟨F, n, i, hkn, h1, h2, hf, hM, hcf⟩ := kind_two c.kind hk2
    have hX : doS S (k : Int) c = doK n S k p c := by
      unfold doS
      rw [hp]
      show (if 1 ≤ c.kind ∧ c.kind ≤ 18 then doK c.kind.toNat S (k : Int).toNat p c else _) = _
      rw [if_pos (by omega), hkn]
      rfl
    rw [hX]
    refine (do_call F n hM hcf s g b cb k S p c vd w hs hI hn hpk hd hsh (fun V bm hb => lookC c.kind _ V bm hb hf)).mono ?_
    rintro e w' ⟨A1, n1, c1, A2, n2, c2, rfl, hr, hs', hfx⟩
    exact ⟨A1, n1, c1, A2, n2, c2, rfl, hr, ⟨s, g, rfl, .inr ⟨b, cb, hs', rfl⟩⟩, hfx⟩
theorem sysD : SysD SysR where
  lt := sysr_lt
  below := sysr_below
  new := fun g t P um vc cs w ht hc hg hn => snew_any g t P um vc cs w ht hc hg hn
  dos := fun v S l pid c vd w hk => sdo_two v S l pid c vd w hk
  tab := fun v S l w h => by
    obtain ⟨s, g, A, c, rfl, hk, ht, -⟩ := sysr_blk h
    exact stab_any s g A _ c S.t w hk ht
end Go.Proofs.YtnkjaocmfhjnoaaGreat
