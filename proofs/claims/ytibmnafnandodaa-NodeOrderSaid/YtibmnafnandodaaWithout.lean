/-
  A node with one entry less, or why there is none: Without. The conditions: a name has a thousand bytes at most, and no list is longer than a thousand.
-/
import Derived.Test.YtibmnafnandodaaWithB
namespace Go.Proofs.Ytibmnafnandodaa
open Go Go.RowKit

attribute [local go_sem] cell_off4 cell_blk4
theorem outM_bad {n : Nd} {name : Nm} (h : ¬ outE n name = 0) : outM n name = Nd.zero := if_neg h
theorem outM_good {n : Nd} {name : Nm} (h : outE n name = 0) (hm : name ∈ nmE n.ents) : outM n name = { n with ents := n.ents.take (n.ents.findIdx (isN name)) ++ n.ents.drop (n.ents.findIdx (isN name) + 1) } := by
  rw [outM, if_pos h, plc_del _ _ hm]
theorem out_at (v : Value) (l : List En) (B k : Nat) (W : World) (hX : EntsX W B v l) (hk : k < l.length) (hn : l.length ≤ 1000) :
    Calls Try.prog 29 #[v, .int .i64 (k : Int), .int .i64 ((k : Int) + 1)] W fun e' w' => ∃ v', e' = .returned v' ∧ EntsT w' v' (l.take k ++ l.drop (k + 1)) ∧ W.grownBy w' v.ownBlock := by
  rcases hX with ⟨-, rfl⟩ | ⟨g, -, rfl, -, hb⟩
  · simp at hk
  · exact delete_any g l k W hb hk hn
set_option maxRecDepth 100000 in
theorem out_kind (n : Nd) (vd ve : Value) (name : Nm) (w : World) (hd : BytesR w vd n.data) (he : EntsR w ve n.ents) (h1 : ¬ n.kind = 2) :
    Calls Try.prog 12 #[nodeV n vd ve, .string (bA name)] w fun e w' => ∃ v, e = .returned (.tuple #[v, .int .i64 20]) ∧ NdT w' v Nd.zero ∧ Below w.heap.size w w' := by
  obtain ⟨A1, c1, rfl⟩ := bytes_form hd rfl
  obtain ⟨A2, c2, rfl⟩ := ents_form he rfl
  have k1 : (n.kind != 2) = true := by simpa using h1
  have HB1 := Lib.hid (al (ba w (.cells (ndC n (.slice A1 n.data.length c1) (.slice A2 n.ents.length c2)) 25)) (.cells ndZ 25))
  clear hd he h1
  unfold nodeV
  go_enter Try.func12, Try.ntmps12
  go_wp2
  exact bodyPost_ret (v := .tuple #[.agg ndZ, .int .i64 20]) (by simp [results, Try.results12, go_sem]) rfl ⟨_, rfl, zero_nd _, HB1.out⟩
set_option maxRecDepth 100000 in
set_option maxHeartbeats 4000000 in
theorem without_anyT (n : Nd) (vd ve : Value) (name : Nm) (w : World) (hd : BytesR w vd n.data) (he : EntsR w ve n.ents) (hnd : n.data.length ≤ 1000) (hn : n.ents.length ≤ 1000) :
    Calls Try.prog 12 #[nodeV n vd ve, .string (bA name)] w fun e w' => ∃ v, e = .returned (.tuple #[v, .int .i64 (outE n name)]) ∧ NdT w' v (outM n name) ∧ Below w.heap.size w w' := by
  obtain ⟨W1, hW1⟩ : ∃ W1, W1 = (w.alloc (.cells (ndC n vd ve) 25)).alloc (.cells ndZ 25) := ⟨_, rfl⟩
  have hb1 : Below w.heap.size w W1 := by rw [hW1]; exact al (ba _ _) _
  have hz1 : W1.heap.size = w.heap.size + 2 := by rw [hW1]; simp
  have hkb : Blk W1 w.heap.size 25 (ndC n vd ve) := by rw [hW1]; exact (Blk.new _ _ _).alloc _
  have hkr : Blk W1 (w.heap.size + 1) 25 ndZ := by rw [hW1]; have := Blk.new (w.alloc (.cells (ndC n vd ve) 25)) 25 ndZ; simpa using this
  have HP := Lib.hid (placeOf_any ve n.ents name W1 (he.below hb1) (by omega))
  have HC := Lib.hid (fun W (hb : Below W1.heap.size W1 W) => copied_any n vd ve W ((hd.below hb1).below hb) ((he.below hb1).below hb) (by omega) (by omega))
  have HB1 := Lib.hid hb1
  have HKB := Lib.hid hkb
  have HKR := Lib.hid hkr
  have HZ1 := Lib.hid hz1
  obtain ⟨A1, c1, rfl⟩ := bytes_form hd rfl
  obtain ⟨A2, c2, rfl⟩ := ents_form he rfl
  have HD := Lib.hid hd
  have HE0 := Lib.hid he
  clear hd he hb1 hkb hkr hz1
  subst hW1
  have hmem := plc_mem name n.ents
  unfold nodeV at HC ⊢
  by_cases h1 : n.kind = 2
  · have k1 : (n.kind != 2) = false := by simpa using h1
    unfold plcI at HP
    by_cases h2 : n.ents.findIdx (isN name) < n.ents.length
    · have h3 := hmem.1 h2
      have hX : outE n name = 0 := by rw [outE, if_neg (fun h => h h1), if_pos h3]
      have HM := Lib.hid (outM_good hX h3)
      rw [if_pos h2] at HP
      rw [hX]
      clear hX h1 hmem h3
      generalize outM n name = M at HM ⊢
      generalize n.ents.findIdx (isN name) = k at HM HP h2
      go_enter Try.func12, Try.ntmps12
      go_wp2_with fail
      refine HP.out.mono ?_
      rintro e w2 ⟨rfl, hb2⟩
      have HB2 := Lib.hid hb2
      obtain ⟨p0, p1, p2, p3, p4, p5, p6⟩ := (HKB.out.below hb2).c7
      clear hb2 HP
      go_wp2_with fail
      refine (HC.out w2 HB2.out).mono ?_
      rintro e w3 ⟨vd', ve', rfl, hx3, hy3, hb3⟩
      have HKB3 := Lib.hid ((HKB.out.below HB2.out).below hb3)
      have HKR3 := Lib.hid ((HKR.out.below HB2.out).below hb3)
      obtain ⟨A3, c3, hv3⟩ := bytesX_form hx3
      obtain ⟨A4, c4, hv4⟩ := entsX_form hy3
      subst hv3 hv4
      have HX3 := Lib.hid hx3
      have HY3 := Lib.hid hy3
      have HB3 := Lib.hid hb3
      clear p0 p1 p2 p3 p4 p5 p6 hb3 hx3 hy3 HC
      obtain ⟨p0, p1, p2, p3, p4, p5, p6⟩ := HKB3.out.c7
      obtain ⟨f0, f1, f2, f3, f4, f5, f6⟩ := HKB3.out.f7
      obtain ⟨s0, s1, s2, s3, s4, s5, s6⟩ := HKB3.out.s7
      have hS := WS.put (n := n) (vd := .slice A3 n.data.length c3) (ve := .slice A4 n.ents.length c4) (bt HB3.out (bt HB2.out HB1.out)) (show w.heap.size ≤ w2.heap.size by have := HB2.out.size; rw [HZ1.out] at this; omega) HB3.out.size HKB3.out HKR3.out (by omega) (Nat.le_refl _) HX3.out HY3.out
      have HS := Lib.hid hS
      clear hS
      go_wp2_with fail
      refine (out_at (.slice A4 n.ents.length c4) n.ents w2.heap.size k (put7 w3 w.heap.size (.int .i64 n.kind) (.int .i64 n.mode) (.int .i64 n.uid) (.int .i64 n.gid) (.slice A3 n.data.length c3) (.slice A4 n.ents.length c4) (.string (bA n.target))) HS.out.ents h2 hn).mono ?_
      rintro e w6 ⟨v6, rfl, he6, hg6⟩
      obtain ⟨hb6, hk6, hr6, hd6⟩ := HS.out.turned hg6
      clear hg6 p0 p1 p2 p3 p4 p5 p6 f0 f1 f2 f3 f4 f5 f6 s0 s1 s2 s3 s4 s5 s6 HS
      obtain ⟨A6, c6, hv6⟩ := ents_form (n := n.ents.length - 1) he6.1 (by simp; omega)
      subst hv6
      have HE6 := Lib.hid he6
      have HB6 := Lib.hid hb6
      have HK6 := Lib.hid hk6
      have HR6 := Lib.hid hr6
      have HD6 := Lib.hid hd6
      obtain ⟨p0, p1, p2, p3, p4, p5, p6⟩ := hk6.c7
      obtain ⟨f0, f1, f2, f3, f4, f5, f6⟩ := hk6.f7
      clear he6 hb6 hk6 hr6 hd6
      have t5 : ∀ u, (w6.setCell ⟨w.heap.size, 5, none⟩ u).cell? ⟨w.heap.size, 5, none⟩ = some u := fun u => (HK6.out.set7_5 u).cell 5
      have HG7 := Lib.hid (grown_setCell w6 ⟨w.heap.size, 5, none⟩ (.slice A6 (n.ents.length - 1) c6))
      have HR7 := Lib.hid (HR6.out.kept HG7.out (by simp))
      obtain ⟨r0, r1, r2, r3, r4, r5, r6⟩ := HR7.out.c7
      obtain ⟨g0, g1, g2, g3, g4, g5, g6⟩ := HR7.out.f7
      obtain ⟨s0, s1, s2, s3, s4, s5, s6⟩ := HR7.out.s7
      go_wp2
      have HG8 := grown7 (w6.setCell ⟨w.heap.size, 5, none⟩ (.slice A6 (n.ents.length - 1) c6)) (w.heap.size + 1) (.int .i64 n.kind) (.int .i64 n.mode) (.int .i64 n.uid) (.int .i64 n.gid) (.slice A3 n.data.length c3) (.slice A6 (n.ents.length - 1) c6) (.string (bA n.target))
      rw [HM.out]
      exact bodyPost_ret (v := .tuple #[nodeV n (.slice A3 n.data.length c3) (.slice A6 (n.ents.length - 1) c6), .int .i64 0]) (by simp [results, Try.results12, go_sem, nodeV, s0, s1, s2, s3, s4, s5, s6]) rfl (with_end HK6.out HR7.out HD6.out HE6.out HB6.out HG7.out HG8 (Nat.le_refl _) (Nat.le_succ _) 0)
    · have h3 : ¬ name ∈ nmE n.ents := fun h => h2 (hmem.2 h)
      have hX : outE n name = 2 := by rw [outE, if_neg (fun h => h h1), if_neg h3]
      have hM := outM_bad (n := n) (name := name) (by rw [hX]; decide)
      rw [if_neg h2] at HP
      rw [hX, hM]
      clear hX hM h1 h2 hmem h3 HC
      go_enter Try.func12, Try.ntmps12
      go_wp2_with fail
      refine HP.out.mono ?_
      rintro e w2 ⟨rfl, hb2⟩
      have HB2 := Lib.hid (bt hb2 HB1.out)
      have HR2 := Lib.hid (HKR.out.below hb2)
      obtain ⟨r0, r1, r2, r3, r4, r5, r6⟩ := HR2.out.c7
      obtain ⟨g0, g1, g2, g3, g4, g5, g6⟩ := HR2.out.f7
      obtain ⟨s0, s1, s2, s3, s4, s5, s6⟩ := HR2.out.s7
      clear hb2
      go_wp2
      have HG8 := grown7 w2 (w.heap.size + 1) (.int .i64 0) (.int .i64 0) (.int .i64 0) (.int .i64 0) (.slice none 0 0) (.slice none 0 0) (.string ⟨#[]⟩)
      exact bodyPost_ret (v := .tuple #[.agg ndZ, .int .i64 2]) (by simp [results, Try.results12, go_sem, s0, s1, s2, s3, s4, s5, s6]) rfl (bad_end HB2.out HG8 (Nat.le_succ _) 2)
  · have k1 : (n.kind != 2) = true := by simpa using h1
    have hX : outE n name = 20 := by rw [outE, if_pos h1]
    have hM := outM_bad (n := n) (name := name) (by rw [hX]; decide)
    rw [hX, hM]
    exact out_kind n _ _ name w HD.out HE0.out h1
theorem without_any (n : Nd) (vd ve : Value) (name : Nm) (w : World) (hd : BytesR w vd n.data) (he : EntsR w ve n.ents) (hnd : n.data.length ≤ 1000) (hn : n.ents.length ≤ 1000) :
    Calls Try.prog 12 #[nodeV n vd ve, .string (bA name)] w fun e w' => ∃ v, e = .returned (.tuple #[v, .int .i64 (outE n name)]) ∧ NdR w' v (outM n name) ∧ Below w.heap.size w w' :=
  (without_anyT n vd ve name w hd he hnd hn).mono fun _ _ ⟨v, h1, h2, h3⟩ => ⟨v, h1, h2.nd, h3⟩
end Go.Proofs.Ytibmnafnandodaa
