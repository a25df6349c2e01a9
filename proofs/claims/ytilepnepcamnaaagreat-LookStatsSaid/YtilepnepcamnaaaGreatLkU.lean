/-
  What the reference's Stat, Readlink and List answer, of a tree. The conditions: no more groups than a million, a path of a thousand bytes at most.
-/
import Derived.Test.YtilepnepcamnaaaGreatLkR
namespace Go.Proofs.YtilepnepcamnaaaGreat
open Go Go.RowKit
set_option maxRecDepth 100000

attribute [local go_sem] cell_off4 cell_blk4
theorem target_ofr (a0 a1 a2 a3 a4 a5 a6 : Value) (s : ByteArray) (w : World) : (Instr.field 75 (.agg #[a0, a1, a2, a3, a4, a5, a6, .string s]) 7).run Tryz.prog w = .ok (.string s) w := by kernel_rfl
theorem names_ofr (a0 a1 a2 a3 a4 a6 a7 : Value) (A : Option Addr) (n c : Nat) (w : World) : (Instr.field 75 (.agg #[a0, a1, a2, a3, a4, .slice A n c, a6, a7]) 5).run Tryz.prog w = .ok (.slice A n c) w := by kernel_rfl
attribute [local go_sem] target_ofr names_ofr
set_option maxHeartbeats 8000000 in
theorem rstat_any {P : Nat → Prop} (v : Value) (t : List Nd) (c : Wh) (A0 : Option Addr) (m k : Nat) (p : Nm) (f : Bool) (w : World) (h : NsR P w v t) (ht : Trx t) (hc : CrR w c A0 m k) (hp : p.length ≤ 1000) (X : Sta × Int) (hX : staM t c p f = X) :
    Calls Tryz.prog 13 #[.agg #[v], .agg #[.int .i64 c.u, .int .i64 c.g, .slice A0 m k], .string (bA p), .bool f] w fun e w' => e = .returned (.tuple #[stV X.1, .int .i64 X.2]) ∧ Below w.heap.size w w' := by
  obtain ⟨g, cc, rfl⟩ := ns_form h
  have hb0 := ba w (.cells #[.slice (some ⟨g, 0, none⟩) t.length cc] 32)
  have hq0 := Blk.new w 32 #[.slice (some ⟨g, 0, none⟩) t.length cc]
  obtain ⟨W0, hW0⟩ : ∃ W0, w.alloc (.cells #[.slice (some ⟨g, 0, none⟩) t.length cc] 32) = W0 := ⟨_, rfl⟩
  rw [hW0] at hb0 hq0
  have hb1 := al hb0 (.cells #[.int .i64 c.u, .int .i64 c.g, .slice A0 m k] 42)
  have hq1 := hq0.below (ba W0 (.cells #[.int .i64 c.u, .int .i64 c.g, .slice A0 m k] 42))
  have hk1 := Blk.new W0 42 #[.int .i64 c.u, .int .i64 c.g, .slice A0 m k]
  obtain ⟨W1, hW1⟩ : ∃ W1, W0.alloc (.cells #[.int .i64 c.u, .int .i64 c.g, .slice A0 m k] 42) = W1 := ⟨_, rfl⟩
  rw [hW1] at hb1 hk1 hq1
  have hb2 := al hb1 (.cells #[.int .i64 0, .int .i64 0, .int .i64 0, .int .i64 0, .int .i64 0, .int .i64 0, .int .i64 0] 35)
  have hk2 := hk1.below (ba W1 (.cells #[.int .i64 0, .int .i64 0, .int .i64 0, .int .i64 0, .int .i64 0, .int .i64 0, .int .i64 0] 35))
  have hq2 := hq1.below (ba W1 (.cells #[.int .i64 0, .int .i64 0, .int .i64 0, .int .i64 0, .int .i64 0, .int .i64 0, .int .i64 0] 35))
  have hr2 := Blk.new W1 35 #[.int .i64 0, .int .i64 0, .int .i64 0, .int .i64 0, .int .i64 0, .int .i64 0, .int .i64 0]
  obtain ⟨W2, hW2⟩ : ∃ W2, W1.alloc (.cells #[.int .i64 0, .int .i64 0, .int .i64 0, .int .i64 0, .int .i64 0, .int .i64 0, .int .i64 0] 35) = W2 := ⟨_, rfl⟩
  rw [hW2] at hb2 hk2 hr2 hq2
  obtain ⟨C0, hC0⟩ : ∃ C0, W0.heap.size = C0 := ⟨_, rfl⟩
  rw [hC0] at hk1 hk2
  obtain ⟨R, hR1⟩ : ∃ R, W1.heap.size = R := ⟨_, rfl⟩
  rw [hR1] at hr2
  have HRW := Lib.hid (show w.heap.size ≤ R by rw [← hR1]; exact hb1.size)
  have HLT := Lib.hid (show w.heap.size < R by rw [← hR1]; exact hq1.lt)
  obtain ⟨FE, hFE⟩ : ∃ FE, resM t c p f = FE := ⟨_, rfl⟩
  obtain ⟨F, E⟩ := FE
  have HRS := Lib.hid (rres_any _ t c A0 m k p f W2 (h.below hb2) ht.le ht.ok (hc.below hb2) hp (F, E) hFE)
  have HT := Lib.hid (h.below hb2)
  have HTR := Lib.hid ht
  have HB2 := Lib.hid hb2
  have HQ2 := Lib.hid hq2
  have HR2 := Lib.hid hr2
  have HX := Lib.hid (show (if E ≠ 0 then (Sta.zero, E) else if F.node = 0 then (Sta.zero, 2) else (staT t F.node, 0)) = X from by have h1 := staM_ref ht c p f; rw [hFE] at h1; exact h1.symm.trans hX)
  clear h hc hb0 hb1 hb2 hr2 hX hFE hk1 hq0 hq1 ht hp
  obtain ⟨k0, k1, k2⟩ := hk2.c3
  have t0 := hq2.cell 0
  simp at t0
  clear hk2 hq2
  go_enter Tryz.func13, Tryz.ntmps13
  go_wp2_with fail
  clear hW0 hW1 hW2 hR1 hC0
  refine HRS.out.mono ?_
  rintro e w3 ⟨rfl, hb3⟩
  have hbx := al hb3 (.cells #[.int .i64 F.dir, .string (bA F.name), .int .i64 F.node] 81)
  have HB4 := Lib.hid (bt hbx HB2.out)
  have HT4 := Lib.hid (HT.out.below hbx)
  have hr4 := HR2.out.below hbx
  have hq4 := HQ2.out.below hbx
  have hf4 := Blk.new w3 81 #[.int .i64 F.dir, .string (bA F.name), .int .i64 F.node]
  obtain ⟨y, hy⟩ : ∃ y, w3.heap.size = y := ⟨_, rfl⟩
  obtain ⟨W4, hW4⟩ : ∃ W4, w3.alloc (.cells #[.int .i64 F.dir, .string (bA F.name), .int .i64 F.node] 81) = W4 := ⟨_, rfl⟩
  rw [hW4] at HB4 HT4 hr4 hf4 hq4
  rw [hy] at hf4
  have HR4 := Lib.hid hr4
  clear hb3 hbx k0 k1 k2 HRS HT HR2 t0
  obtain ⟨b0, b1, b2⟩ := hf4.c3
  have t0 := hq4.cell 0
  simp at t0
  obtain ⟨x0, x1, x2, x3, x4, x5, x6⟩ := hr4.c7
  obtain ⟨q0, q1, q2, q3, q4, q5, q6⟩ := hr4.f7
  obtain ⟨s0, s1, s2, s3, s4, s5, s6⟩ := hr4.s7
  by_cases qE : E = 0
  · have qE1 : (E != 0) = false := by simpa using qE
    by_cases qN : F.node = 0
    · have qN1 : (F.node == 0) = true := by simpa using qN
      have HZ := Lib.hid (show X = (Sta.zero, 2) from by have h := HX.out; rw [if_neg (fun r => r qE), if_pos qN] at h; exact h.symm)
      have HG := Lib.hid (grown7 W4 R (.int .i64 0) (.int .i64 0) (.int .i64 0) (.int .i64 0) (.int .i64 0) (.int .i64 0) (.int .i64 0))
      clear qE qN hr4 hf4 hq4
      go_wp2
      exact bodyPost_ret (v := .tuple #[.agg #[.int .i64 0, .int .i64 0, .int .i64 0, .int .i64 0, .int .i64 0, .int .i64 0, .int .i64 0], .int .i64 2]) (by simp [results, Tryz.results13, go_sem, s0, s1, s2, s3, s4, s5, s6]) rfl ⟨by rw [HZ.out]; rfl, below_grown HB4.out HG.out HRW.out⟩
    · have qN1 : (F.node == 0) = false := by simpa using qN
      obtain ⟨S, hS⟩ : ∃ S, staT t F.node = S := ⟨_, rfl⟩
      have HO := Lib.hid (rof_any _ t F.node W4 HT4.out HTR.out.le HTR.out.ok)
      have HZ := Lib.hid (show X = (S, 0) from by have h := HX.out; rw [if_neg (fun r => r qE), if_neg qN, hS] at h; exact h.symm)
      rw [hS] at HO
      unfold stV stC at HO
      clear qE qN hr4 hf4 hq4 hS x0 x1 x2 x3 x4 x5 x6 q0 q1 q2 q3 q4 q5 q6 s0 s1 s2 s3 s4 s5 s6
      go_wp2_with fail
      clear hW4 hy
      refine HO.out.mono ?_
      rintro e w5 ⟨rfl, hb5⟩
      have HB5 := Lib.hid (bt hb5 HB4.out)
      have hr5 := HR4.out.below hb5
      obtain ⟨x0, x1, x2, x3, x4, x5, x6⟩ := hr5.c7
      obtain ⟨q0, q1, q2, q3, q4, q5, q6⟩ := hr5.f7
      obtain ⟨s0, s1, s2, s3, s4, s5, s6⟩ := hr5.s7
      have HG := Lib.hid (grown7 w5 R (.int .i64 S.node) (.int .i64 S.kind) (.int .i64 S.mode) (.int .i64 S.uid) (.int .i64 S.gid) (.int .i64 S.links) (.int .i64 S.size))
      clear hb5 hr5 b0 b1 b2 t0
      go_wp2
      exact bodyPost_ret (v := .tuple #[.agg #[.int .i64 S.node, .int .i64 S.kind, .int .i64 S.mode, .int .i64 S.uid, .int .i64 S.gid, .int .i64 S.links, .int .i64 S.size], .int .i64 0]) (by simp [results, Tryz.results13, go_sem, s0, s1, s2, s3, s4, s5, s6]) rfl ⟨by rw [HZ.out]; rfl, below_grown HB5.out HG.out HRW.out⟩
  · have qE1 : (E != 0) = true := by simpa using qE
    have HZ := Lib.hid (show X = (Sta.zero, E) from by have h := HX.out; rw [if_pos qE] at h; exact h.symm)
    have HG := Lib.hid (grown7 W4 R (.int .i64 0) (.int .i64 0) (.int .i64 0) (.int .i64 0) (.int .i64 0) (.int .i64 0) (.int .i64 0))
    clear qE hr4 hf4 hq4
    go_wp2
    exact bodyPost_ret (v := .tuple #[.agg #[.int .i64 0, .int .i64 0, .int .i64 0, .int .i64 0, .int .i64 0, .int .i64 0, .int .i64 0], .int .i64 E]) (by simp [results, Tryz.results13, go_sem, s0, s1, s2, s3, s4, s5, s6]) rfl ⟨by rw [HZ.out]; rfl, below_grown HB4.out HG.out HRW.out⟩
set_option maxHeartbeats 8000000 in
theorem rreadlink_any {P : Nat → Prop} (v : Value) (t : List Nd) (c : Wh) (A0 : Option Addr) (m k : Nat) (p : Nm) (w : World) (h : NsR P w v t) (ht : Trx t) (hc : CrR w c A0 m k) (hp : p.length ≤ 1000) (X : Nm × Int) (hX : rdlM t c p = X) :
    Calls Tryz.prog 20 #[.agg #[v], .agg #[.int .i64 c.u, .int .i64 c.g, .slice A0 m k], .string (bA p)] w fun e w' => e = .returned (.tuple #[.string (bA X.1), .int .i64 X.2]) ∧ Below w.heap.size w w' := by
  obtain ⟨g, cc, rfl⟩ := ns_form h
  have hb0 := ba w (.cells #[.slice (some ⟨g, 0, none⟩) t.length cc] 32)
  have hq0 := Blk.new w 32 #[.slice (some ⟨g, 0, none⟩) t.length cc]
  obtain ⟨W0, hW0⟩ : ∃ W0, w.alloc (.cells #[.slice (some ⟨g, 0, none⟩) t.length cc] 32) = W0 := ⟨_, rfl⟩
  rw [hW0] at hb0 hq0
  have hb1 := al hb0 (.cells #[.int .i64 c.u, .int .i64 c.g, .slice A0 m k] 42)
  have hq1 := hq0.below (ba W0 (.cells #[.int .i64 c.u, .int .i64 c.g, .slice A0 m k] 42))
  have hk1 := Blk.new W0 42 #[.int .i64 c.u, .int .i64 c.g, .slice A0 m k]
  obtain ⟨W1, hW1⟩ : ∃ W1, W0.alloc (.cells #[.int .i64 c.u, .int .i64 c.g, .slice A0 m k] 42) = W1 := ⟨_, rfl⟩
  rw [hW1] at hb1 hk1 hq1
  obtain ⟨C0, hC0⟩ : ∃ C0, W0.heap.size = C0 := ⟨_, rfl⟩
  rw [hC0] at hk1
  obtain ⟨SE, hSE⟩ : ∃ SE, staM t c p false = SE := ⟨_, rfl⟩
  obtain ⟨S, E⟩ := SE
  have HO := Lib.hid (rstat_any _ t c A0 m k p false W1 (h.below hb1) ht (hc.below hb1) hp (S, E) hSE)
  have HT := Lib.hid (h.below hb1)
  have HTR := Lib.hid ht
  have HB1 := Lib.hid hb1
  have HQ1 := Lib.hid hq1
  have HE1 := Lib.hid (fun (q : E ≠ 0) => show ([], E) = X from (rdl_err hSE q).symm.trans hX)
  have HE2 := Lib.hid (fun (q : E = 0) (r : S.kind ≠ 3) => show ([], 22) = X from (rdl_kind (by rw [hSE, q]) r).symm.trans hX)
  have HE3 := Lib.hid (fun (q : E = 0) (r : S.kind = 3) => show ((tget t S.node).target, 0) = X from (rdl_good (by rw [hSE, q]) r).symm.trans hX)
  unfold stV stC at HO
  clear h hc hb0 hb1 hX hSE hq0 ht hp
  obtain ⟨k0, k1, k2⟩ := hk1.c3
  have t0 := hq1.cell 0
  simp at t0
  clear hk1 hq1
  go_enter Tryz.func20, Tryz.ntmps20
  go_wp2_with fail
  clear hW0 hW1 hC0
  refine HO.out.mono ?_
  rintro e w2 ⟨rfl, hb2⟩
  have hbx := al hb2 (.cells #[.int .i64 S.node, .int .i64 S.kind, .int .i64 S.mode, .int .i64 S.uid, .int .i64 S.gid, .int .i64 S.links, .int .i64 S.size] 35)
  have HB3 := Lib.hid (bt hbx HB1.out)
  have HT3 := Lib.hid (HT.out.below hbx)
  have hq3 := HQ1.out.below hbx
  have hs3 := Blk.new w2 35 #[.int .i64 S.node, .int .i64 S.kind, .int .i64 S.mode, .int .i64 S.uid, .int .i64 S.gid, .int .i64 S.links, .int .i64 S.size]
  obtain ⟨z, hz⟩ : ∃ z, w2.heap.size = z := ⟨_, rfl⟩
  obtain ⟨W3, hW3⟩ : ∃ W3, w2.alloc (.cells #[.int .i64 S.node, .int .i64 S.kind, .int .i64 S.mode, .int .i64 S.uid, .int .i64 S.gid, .int .i64 S.links, .int .i64 S.size] 35) = W3 := ⟨_, rfl⟩
  rw [hW3] at HB3 HT3 hs3 hq3
  rw [hz] at hs3
  clear hb2 hbx HO HT k0 k1 k2 t0
  obtain ⟨p0, p1, p2, p3, p4, p5, p6⟩ := hs3.c7
  have t0 := hq3.cell 0
  simp at t0
  clear hs3 hq3
  by_cases qE : E = 0
  · have qE1 : (E != 0) = false := by simpa using qE
    by_cases qK : S.kind = 3
    · have qK1 : (S.kind != 3) = false := by simpa using qK
      have HZ := Lib.hid (HE3.out qE qK)
      obtain ⟨n, hn⟩ : ∃ n, tget t S.node = n := ⟨_, rfl⟩
      have HG := Lib.hid (rget_any _ t S.node W3 HT3.out HTR.out.le)
      rw [hn] at HG HZ
      clear qE qK hn HE1 HE2 HE3
      go_wp2_with fail
      clear hW3 hz
      refine HG.out.mono ?_
      rintro e w4 ⟨u, rfl, ⟨vn, vk, rfl, -, -⟩, hb4⟩
      have HB4 := Lib.hid (bt hb4 HB3.out)
      unfold refV
      clear hb4 p0 p1 p2 p3 p4 p5 p6 t0
      go_wp2
      go_ret2
      exact ⟨by rw [← HZ.out]; rfl, HB4.out⟩
    · have qK1 : (S.kind != 3) = true := by simpa using qK
      have HZ := Lib.hid (HE2.out qE qK)
      clear qE qK HE1 HE2 HE3
      go_wp2
      go_ret2
      exact ⟨by rw [← HZ.out]; rfl, HB3.out⟩
  · have qE1 : (E != 0) = true := by simpa using qE
    have HZ := Lib.hid (HE1.out qE)
    clear qE HE1 HE2 HE3
    go_wp2
    go_ret2
    exact ⟨by rw [← HZ.out]; rfl, HB3.out⟩
set_option maxHeartbeats 8000000 in
theorem rlist_any {P : Nat → Prop} (v : Value) (t : List Nd) (c : Wh) (A0 : Option Addr) (m k : Nat) (p : Nm) (w : World) (h : NsR P w v t) (ht : Trx t) (hc : CrR w c A0 m k) (hp : p.length ≤ 1000) (X : List Nm × Int) (hX : lstM t c p = X) :
    Calls Tryz.prog 22 #[.agg #[v], .agg #[.int .i64 c.u, .int .i64 c.g, .slice A0 m k], .string (bA p)] w fun e w' => ∃ u, e = .returned (.tuple #[u, .int .i64 X.2]) ∧ StrsR w' u (nmA X.1) ∧ Below w.heap.size w w' := by
  obtain ⟨g, cc, rfl⟩ := ns_form h
  have hb0 := ba w (.cells #[.slice (some ⟨g, 0, none⟩) t.length cc] 32)
  have hq0 := Blk.new w 32 #[.slice (some ⟨g, 0, none⟩) t.length cc]
  obtain ⟨W0, hW0⟩ : ∃ W0, w.alloc (.cells #[.slice (some ⟨g, 0, none⟩) t.length cc] 32) = W0 := ⟨_, rfl⟩
  rw [hW0] at hb0 hq0
  have hb1 := al hb0 (.cells #[.int .i64 c.u, .int .i64 c.g, .slice A0 m k] 42)
  have hq1 := hq0.below (ba W0 (.cells #[.int .i64 c.u, .int .i64 c.g, .slice A0 m k] 42))
  have hk1 := Blk.new W0 42 #[.int .i64 c.u, .int .i64 c.g, .slice A0 m k]
  obtain ⟨W1, hW1⟩ : ∃ W1, W0.alloc (.cells #[.int .i64 c.u, .int .i64 c.g, .slice A0 m k] 42) = W1 := ⟨_, rfl⟩
  rw [hW1] at hb1 hk1 hq1
  obtain ⟨C0, hC0⟩ : ∃ C0, W0.heap.size = C0 := ⟨_, rfl⟩
  rw [hC0] at hk1
  obtain ⟨SE, hSE⟩ : ∃ SE, staM t c p true = SE := ⟨_, rfl⟩
  obtain ⟨S, E⟩ := SE
  have HO := Lib.hid (rstat_any _ t c A0 m k p true W1 (h.below hb1) ht (hc.below hb1) hp (S, E) hSE)
  have HT := Lib.hid (h.below hb1)
  have HC := Lib.hid (hc.below hb1)
  have HTR := Lib.hid ht
  have HB1 := Lib.hid hb1
  have HQ1 := Lib.hid hq1
  have HK1 := Lib.hid hk1
  have HE1 := Lib.hid (fun (q : E ≠ 0) => show ([], E) = X from (lst_err hSE q).symm.trans hX)
  have HE2 := Lib.hid (fun (q : E = 0) (r : S.kind ≠ 2) => show ([], 20) = X from (lst_kind (by rw [hSE, q]) r).symm.trans hX)
  have HE3 := Lib.hid (fun (q : E = 0) (r : S.kind = 2) (d : canT t c S.node 4 = false) => show ([], 13) = X from (lst_can (by rw [hSE, q]) r d).symm.trans hX)
  have HE4 := Lib.hid (fun (q : E = 0) (r : S.kind = 2) (d : canT t c S.node 4 = true) => show (nmE (tget t S.node).ents, 0) = X from (lst_good (by rw [hSE, q]) r d).symm.trans hX)
  unfold stV stC at HO
  clear h hc hb0 hb1 hX hSE hq0 ht hp
  obtain ⟨k0, k1, k2⟩ := hk1.c3
  have t0 := hq1.cell 0
  simp at t0
  clear hk1 hq1
  go_enter Tryz.func22, Tryz.ntmps22
  go_wp2_with fail
  clear hW0 hW1 hC0
  refine HO.out.mono ?_
  rintro e w2 ⟨rfl, hb2⟩
  have hbx := al hb2 (.cells #[.int .i64 S.node, .int .i64 S.kind, .int .i64 S.mode, .int .i64 S.uid, .int .i64 S.gid, .int .i64 S.links, .int .i64 S.size] 35)
  have HB3 := Lib.hid (bt hbx HB1.out)
  have HT3 := Lib.hid (HT.out.below hbx)
  have HC3 := Lib.hid (HC.out.below hbx)
  have hk3 := HK1.out.below hbx
  have hq3 := HQ1.out.below hbx
  have hs3 := Blk.new w2 35 #[.int .i64 S.node, .int .i64 S.kind, .int .i64 S.mode, .int .i64 S.uid, .int .i64 S.gid, .int .i64 S.links, .int .i64 S.size]
  obtain ⟨z, hz⟩ : ∃ z, w2.heap.size = z := ⟨_, rfl⟩
  obtain ⟨W3, hW3⟩ : ∃ W3, w2.alloc (.cells #[.int .i64 S.node, .int .i64 S.kind, .int .i64 S.mode, .int .i64 S.uid, .int .i64 S.gid, .int .i64 S.links, .int .i64 S.size] 35) = W3 := ⟨_, rfl⟩
  rw [hW3] at HB3 HT3 hs3 HC3 hk3 hq3
  rw [hz] at hs3
  have HS3 := Lib.hid hs3
  have HQ3 := Lib.hid hq3
  clear hb2 hbx HO HT HC k0 k1 k2 HK1 t0
  obtain ⟨p0, p1, p2, p3, p4, p5, p6⟩ := hs3.c7
  obtain ⟨k0, k1, k2⟩ := hk3.c3
  have t0 := hq3.cell 0
  simp at t0
  clear hs3 hk3 hq3
  by_cases qE : E = 0
  · have qE1 : (E != 0) = false := by simpa using qE
    by_cases qK : S.kind = 2
    · have qK1 : (S.kind != 2) = false := by simpa using qK
      have HCN := Lib.hid (rrcan_any _ t c A0 m k S.node 4 W3 HT3.out HTR.out.le HC3.out)
      have HN3 := Lib.hid (HE3.out qE qK)
      have HN4 := Lib.hid (HE4.out qE qK)
      generalize canT t c S.node 4 = cn at HCN HN3 HN4
      clear qE qK HE1 HE2 HE3 HE4
      go_wp2_with fail
      clear hW3 hz
      refine HCN.out.mono ?_
      rintro e w4 ⟨rfl, hb4⟩
      have HB4 := Lib.hid (bt hb4 HB3.out)
      have HT4 := Lib.hid (HT3.out.below hb4)
      have hs4 := HS3.out.below hb4
      have hq4 := HQ3.out.below hb4
      clear hb4 p0 p1 p2 p3 p4 p5 p6 k0 k1 k2 t0
      obtain ⟨p0, p1, p2, p3, p4, p5, p6⟩ := hs4.c7
      have t0 := hq4.cell 0
      simp at t0
      clear hs4 hq4
      cases cn with
      | false =>
        have HZ := Lib.hid (HN3.out rfl)
        clear HN3 HN4
        go_wp2
        go_ret2
        exact ⟨_, by rw [← HZ.out]; rfl, by rw [← HZ.out]; exact strs_none _, HB4.out⟩
      | true =>
        have HZ := Lib.hid (HN4.out rfl)
        obtain ⟨n, hn⟩ : ∃ n, tget t S.node = n := ⟨_, rfl⟩
        have HG := Lib.hid (rget_any _ t S.node w4 HT4.out HTR.out.le)
        rw [hn] at HG HZ
        clear HN3 HN4 hn
        go_wp2_with fail
        refine HG.out.mono ?_
        rintro e w5 ⟨u, rfl, ⟨vn, vk, rfl, hs, -⟩, hb5⟩
        have HB5 := Lib.hid (bt hb5 HB4.out)
        have HU := Lib.hid hs
        obtain ⟨A7, k7, rfl⟩ := strs_form hs (nm_len _)
        unfold refV
        clear hb5 hs p0 p1 p2 p3 p4 p5 p6 t0
        go_wp2
        go_ret2
        exact ⟨_, by rw [← HZ.out]; rfl, by rw [← HZ.out]; exact HU.out, HB5.out⟩
    · have qK1 : (S.kind != 2) = true := by simpa using qK
      have HZ := Lib.hid (HE2.out qE qK)
      clear qE qK HE1 HE2 HE3 HE4
      go_wp2
      go_ret2
      exact ⟨_, by rw [← HZ.out]; rfl, by rw [← HZ.out]; exact strs_none _, HB3.out⟩
  · have qE1 : (E != 0) = true := by simpa using qE
    have HZ := Lib.hid (HE1.out qE)
    clear qE HE1 HE2 HE3 HE4
    go_wp2
    go_ret2
    exact ⟨_, by rw [← HZ.out]; rfl, by rw [← HZ.out]; exact strs_none _, HB3.out⟩
end Go.Proofs.YtilepnepcamnaaaGreat
