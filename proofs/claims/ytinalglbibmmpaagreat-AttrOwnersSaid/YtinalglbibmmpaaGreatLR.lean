/-
  The reference's look. The conditions are said at each.
-/
import Derived.Test.YtinalglbibmmpaaGreatLP
import Derived.Test.YtinalglbibmmpaaGreatRF
namespace Go.Proofs.YtinalglbibmmpaaGreat
open Go Go.RowKit
set_option maxRecDepth 100000

attribute [local go_sem] cell_off4 cell_blk4
set_option maxHeartbeats 8000000 in
theorem rof_any {P : Nat → Prop} (v : Value) (t : List Nd) (i : Int) (w : World) (h : NsR P w v t) (hl : t.length ≤ 24) (ho : okT t) :
    Calls Tryz.prog 47 #[.agg #[v], .int .i64 i] w fun e w' => e = .returned (stV (staT t i)) ∧ Below w.heap.size w w' := by
  obtain ⟨g, c, rfl⟩ := ns_form h
  have hb1 := ba w (.cells #[.slice (some ⟨g, 0, none⟩) t.length c] 32)
  have hk1 := Blk.new w 32 #[.slice (some ⟨g, 0, none⟩) t.length c]
  obtain ⟨W1, hW1⟩ : ∃ W1, w.alloc (.cells #[.slice (some ⟨g, 0, none⟩) t.length c] 32) = W1 := ⟨_, rfl⟩
  rw [hW1] at hb1 hk1
  have hb2 := al hb1 (.cells #[.int .i64 0, .int .i64 0, .int .i64 0, .int .i64 0, .int .i64 0, .int .i64 0, .int .i64 0] 47)
  have hk2 := hk1.below (ba W1 (.cells #[.int .i64 0, .int .i64 0, .int .i64 0, .int .i64 0, .int .i64 0, .int .i64 0, .int .i64 0] 47))
  have hr2 := Blk.new W1 47 #[.int .i64 0, .int .i64 0, .int .i64 0, .int .i64 0, .int .i64 0, .int .i64 0, .int .i64 0]
  obtain ⟨W2, hW2⟩ : ∃ W2, W1.alloc (.cells #[.int .i64 0, .int .i64 0, .int .i64 0, .int .i64 0, .int .i64 0, .int .i64 0, .int .i64 0] 47) = W2 := ⟨_, rfl⟩
  rw [hW2] at hb2 hk2 hr2
  obtain ⟨R, hR1⟩ : ∃ R, W1.heap.size = R := ⟨_, rfl⟩
  rw [hR1] at hr2
  have HRW := Lib.hid (show w.heap.size ≤ R by rw [← hR1]; exact hb1.size)
  have HLT := Lib.hid (show w.heap.size < R by rw [← hR1]; exact hk1.lt)
  have HG := Lib.hid (rget_any _ t i W2 (h.below hb2) hl)
  have HT := Lib.hid (h.below hb2)
  have HB2 := Lib.hid hb2
  have HK2 := Lib.hid hk2
  have HR2 := Lib.hid hr2
  obtain ⟨S, hS⟩ : ∃ S, staT t i = S := ⟨_, rfl⟩
  have HYES := Lib.hid (fun (q : (tget t i).kind ≠ 0) => show S = ⟨i, (tget t i).kind, (tget t i).mode, (tget t i).uid, (tget t i).gid, (linkT t i : Int), sizM (tget t i)⟩ from by rw [← hS, sta_is (by unfold tis; exact decide_eq_true q)])
  have HNO := Lib.hid (fun (q : (tget t i).kind = 0) => show S = Sta.zero from by rw [← hS, sta_not (by unfold tis; simp [q])])
  rw [hS]
  obtain ⟨n, hn⟩ : ∃ n, tget t i = n := ⟨_, rfl⟩
  rw [hn] at HG HYES HNO
  obtain ⟨LK, hLK⟩ : ∃ LK, (linkT t i : Int) = LK := ⟨_, rfl⟩
  obtain ⟨SZ, hSZ⟩ : ∃ SZ, sizM n = SZ := ⟨_, rfl⟩
  rw [hLK, hSZ] at HYES
  have HLN := Lib.hid (fun (W : World) (hb : Below W2.heap.size W2 W) => show Calls Tryz.prog 69 #[.agg #[.slice (some ⟨g, 0, none⟩) t.length c], .int .i64 i] W fun e w' => e = .returned (.int .i64 LK) ∧ Below W.heap.size W w' from by have h1 := rlinks_any _ t i W (HT.out.below hb) hl ho; rw [hLK] at h1; exact h1)
  have HSI := Lib.hid (fun (vn vk : Value) (W : World) (hd : StrsR W vn (nmA (nmE n.ents))) (he : IntsR W vk (idE n.ents)) => show Calls Tryz.prog 70 #[.agg (rfC n vn vk)] W fun e w' => e = .returned (.int .i64 SZ) ∧ Below W.heap.size W w' from by have h1 := rsize_any n vn vk W hd he; rw [hSZ] at h1; exact h1)
  unfold rfC at HSI
  clear h hb1 hb2 hk1 hr2 hS hn hLK hSZ
  have k0 := hk2.cell 0
  simp at k0
  clear hk2
  go_enter Tryz.func47, Tryz.ntmps47
  go_wp2_with fail
  clear hW1 hW2 hR1
  refine HG.out.mono ?_
  rintro e w3 ⟨u, rfl, ⟨vn, vk, rfl, hs, hi⟩, hb3⟩
  unfold refV
  obtain ⟨A1, c1, rfl⟩ := strs_form hs (nm_len _)
  obtain ⟨A2, c2, rfl⟩ := ints_form hi (idE_len _)
  have hbw := ba w3 (.cells #[.int .i64 n.kind, .int .i64 n.mode, .int .i64 n.uid, .int .i64 n.gid, .string (bA n.data), .slice A1 n.ents.length c1, .slice A2 n.ents.length c2, .string (bA n.target)] 61)
  have hbx := al hb3 (.cells #[.int .i64 n.kind, .int .i64 n.mode, .int .i64 n.uid, .int .i64 n.gid, .string (bA n.data), .slice A1 n.ents.length c1, .slice A2 n.ents.length c2, .string (bA n.target)] 61)
  have HBX := Lib.hid hbx
  have HB4 := Lib.hid (bt hbx HB2.out)
  have hr4 := HR2.out.below hbx
  have hk4 := HK2.out.below hbx
  have hn4 := Blk.new w3 61 #[.int .i64 n.kind, .int .i64 n.mode, .int .i64 n.uid, .int .i64 n.gid, .string (bA n.data), .slice A1 n.ents.length c1, .slice A2 n.ents.length c2, .string (bA n.target)]
  have HD4 := Lib.hid (hs.below hbw)
  have HE4 := Lib.hid (hi.below hbw)
  have zlt : R < w3.heap.size := (HR2.out.below hb3).lt
  obtain ⟨z, hz⟩ : ∃ z, w3.heap.size = z := ⟨_, rfl⟩
  obtain ⟨W4, hW4⟩ : ∃ W4, w3.alloc (.cells #[.int .i64 n.kind, .int .i64 n.mode, .int .i64 n.uid, .int .i64 n.gid, .string (bA n.data), .slice A1 n.ents.length c1, .slice A2 n.ents.length c2, .string (bA n.target)] 61) = W4 := ⟨_, rfl⟩
  rw [hW4] at HBX HB4 hr4 hn4 HD4 HE4 hk4
  rw [hz] at hn4 zlt
  have HR4 := Lib.hid hr4
  clear hs hi hb3 hbx hbw HG HR2 k0 HK2 HT
  obtain ⟨p0, p1, p2, p3, p4, p5, p6, p7⟩ := hn4.c8
  have k0 := hk4.cell 0
  simp at k0
  by_cases qk : n.kind = 0
  · have qk1 : (n.kind == 0) = true := by simpa using qk
    have HZ := Lib.hid (HNO.out qk)
    obtain ⟨x0, x1, x2, x3, x4, x5, x6⟩ := hr4.c7
    obtain ⟨q0, q1, q2, q3, q4, q5, q6⟩ := hr4.f7
    obtain ⟨s0, s1, s2, s3, s4, s5, s6⟩ := hr4.s7
    have HGR := Lib.hid (grown7 W4 R (.int .i64 0) (.int .i64 0) (.int .i64 0) (.int .i64 0) (.int .i64 0) (.int .i64 0) (.int .i64 0))
    clear hr4 hn4 qk hk4
    go_wp2
    exact bodyPost_ret (v := .agg #[.int .i64 0, .int .i64 0, .int .i64 0, .int .i64 0, .int .i64 0, .int .i64 0, .int .i64 0]) (by simp [results, Tryz.results47, go_sem, s0, s1, s2, s3, s4, s5, s6]) rfl ⟨by rw [HZ.out]; rfl, below_grown HB4.out HGR.out HRW.out⟩
  · have qk1 : (n.kind == 0) = false := by simpa using qk
    have HZ := Lib.hid (HYES.out qk)
    have HN4 := Lib.hid hn4
    have HK4 := Lib.hid hk4
    have HPR := Lib.hid (fun (W : World) (hb : Below W4.heap.size W4 W) => show W.cell? ⟨z, 0, none⟩ = some (.int .i64 n.kind) ∧ W.cell? ⟨z, 1, none⟩ = some (.int .i64 n.mode) ∧ W.cell? ⟨z, 2, none⟩ = some (.int .i64 n.uid) ∧ W.cell? ⟨z, 3, none⟩ = some (.int .i64 n.gid) ∧ W.cell? ⟨z, 4, none⟩ = some (.string (bA n.data)) ∧ W.cell? ⟨z, 5, none⟩ = some (.slice A1 n.ents.length c1) ∧ W.cell? ⟨z, 6, none⟩ = some (.slice A2 n.ents.length c2) ∧ W.cell? ⟨z, 7, none⟩ = some (.string (bA n.target)) ∧ W.cell? ⟨w.heap.size, 0, none⟩ = some (.slice (some ⟨g, 0, none⟩) t.length c) from ⟨(HN4.out.below hb).c8.1, (HN4.out.below hb).c8.2.1, (HN4.out.below hb).c8.2.2.1, (HN4.out.below hb).c8.2.2.2.1, (HN4.out.below hb).c8.2.2.2.2.1, (HN4.out.below hb).c8.2.2.2.2.2.1, (HN4.out.below hb).c8.2.2.2.2.2.2.1, (HN4.out.below hb).c8.2.2.2.2.2.2.2, (HK4.out.below hb).cell 0⟩)
    have HS2 := Lib.hid (fun (W : World) (hb : Below W4.heap.size W4 W) => HSI.out (.slice A1 n.ents.length c1) (.slice A2 n.ents.length c2) W (HD4.out.below hb) (HE4.out.below hb))
    have HL2 := Lib.hid (fun (W : World) (hb : Below W4.heap.size W4 W) => HLN.out W (bt hb HBX.out))
    have j0 : Below W4.heap.size W4 W4.drew := (Below.refl _ _).drew
    clear hr4 hn4 hk4 qk HYES HNO HLN HSI
    go_upto_region 4 with fail
    go_region_held3 (fun w' => w'.cell? ⟨z, 0, none⟩ = some (.int .i64 n.kind) ∧ w'.cell? ⟨z, 1, none⟩ = some (.int .i64 n.mode) ∧ w'.cell? ⟨z, 2, none⟩ = some (.int .i64 n.uid) ∧ w'.cell? ⟨z, 3, none⟩ = some (.int .i64 n.gid) ∧ w'.cell? ⟨z, 4, none⟩ = some (.string (bA n.data)) ∧ w'.cell? ⟨z, 5, none⟩ = some (.slice A1 n.ents.length c1) ∧ w'.cell? ⟨z, 6, none⟩ = some (.slice A2 n.ents.length c2) ∧ w'.cell? ⟨z, 7, none⟩ = some (.string (bA n.target)) ∧ w'.cell? ⟨w.heap.size, 0, none⟩ = some (.slice (some ⟨g, 0, none⟩) t.length c))
      (first | (with_reducible exact HPR.out _ j0) | (with_reducible exact HPR.out _ j1) | (with_reducible exact HPR.out _ j2) | (with_reducible exact ⟨t0, t1, t2, t3, t4, t5, t6, t7, t8⟩))
      (first
      | (go_at_call 69; (with_reducible refine (HL2.out _ j0).mono ?_); rintro e1 w5 ⟨rfl, hb5⟩; have j1 := bt hb5 j0; clear hb5)
      | (go_at_call 70; (with_reducible refine (HS2.out _ j1).mono ?_); rintro e2 w6 ⟨rfl, hb6⟩; have j2 := bt hb6 j1; have hr6 := HR4.out.below j2; have HR6 := Lib.hid hr6; obtain ⟨x0, x1, x2, x3, x4, x5, x6⟩ := hr6.c7; obtain ⟨f0, f1, f2, f3, f4, f5, f6⟩ := hr6.f7; have ht6 : Blk (((((((w6.setCell ⟨R, 0, none⟩ (.int .i64 i)).setCell ⟨R, 1, none⟩ (.int .i64 n.kind)).setCell ⟨R, 2, none⟩ (.int .i64 n.mode)).setCell ⟨R, 3, none⟩ (.int .i64 n.uid)).setCell ⟨R, 4, none⟩ (.int .i64 n.gid)).setCell ⟨R, 5, none⟩ (.int .i64 LK)).setCell ⟨R, 6, none⟩ (.int .i64 SZ)) z 61 #[.int .i64 n.kind, .int .i64 n.mode, .int .i64 n.uid, .int .i64 n.gid, .string (bA n.data), .slice A1 n.ents.length c1, .slice A2 n.ents.length c2, .string (bA n.target)] := (HN4.out.below j2).kept (grown7 w6 R (.int .i64 i) (.int .i64 n.kind) (.int .i64 n.mode) (.int .i64 n.uid) (.int .i64 n.gid) (.int .i64 LK) (.int .i64 SZ)) (some_ne (Nat.ne_of_gt zlt)); have ht8 : Blk (((((((w6.setCell ⟨R, 0, none⟩ (.int .i64 i)).setCell ⟨R, 1, none⟩ (.int .i64 n.kind)).setCell ⟨R, 2, none⟩ (.int .i64 n.mode)).setCell ⟨R, 3, none⟩ (.int .i64 n.uid)).setCell ⟨R, 4, none⟩ (.int .i64 n.gid)).setCell ⟨R, 5, none⟩ (.int .i64 LK)).setCell ⟨R, 6, none⟩ (.int .i64 SZ)) w.heap.size 32 #[.slice (some ⟨g, 0, none⟩) t.length c] := (HK4.out.below j2).kept (grown7 w6 R (.int .i64 i) (.int .i64 n.kind) (.int .i64 n.mode) (.int .i64 n.uid) (.int .i64 n.gid) (.int .i64 LK) (.int .i64 SZ)) (some_ne (Nat.ne_of_lt HLT.out)); obtain ⟨t0, t1, t2, t3, t4, t5, t6, t7⟩ := ht6.c8; have t8 := ht8.cell 0; simp at t8; obtain ⟨s0, s1, s2, s3, s4, s5, s6⟩ := hr6.s7; clear hb6 hr6 ht6 ht8))
    all_goals (
      have HGR := Lib.hid (grown7 w6 R (.int .i64 i) (.int .i64 n.kind) (.int .i64 n.mode) (.int .i64 n.uid) (.int .i64 n.gid) (.int .i64 LK) (.int .i64 SZ))
      go_wp2
      exact bodyPost_ret (v := .agg #[.int .i64 i, .int .i64 n.kind, .int .i64 n.mode, .int .i64 n.uid, .int .i64 n.gid, .int .i64 LK, .int .i64 SZ]) (by simp [results, Tryz.results47, go_sem, s0, s1, s2, s3, s4, s5, s6]) rfl ⟨by rw [HZ.out]; rfl, below_grown (bt j2 HB4.out) HGR.out HRW.out⟩)
end Go.Proofs.YtinalglbibmmpaaGreat
namespace Go.Proofs.YtinalglbibmmpaaGreat
open Go Go.RowKit
set_option maxRecDepth 100000

attribute [local go_sem] cell_off4 cell_blk4
theorem target_ofr (a0 a1 a2 a3 a4 a5 a6 : Value) (s : ByteArray) (w : World) : (Instr.field 61 (.agg #[a0, a1, a2, a3, a4, a5, a6, .string s]) 7).run Tryz.prog w = .ok (.string s) w := by kernel_rfl
theorem names_ofr (a0 a1 a2 a3 a4 a6 a7 : Value) (A : Option Addr) (n c : Nat) (w : World) : (Instr.field 61 (.agg #[a0, a1, a2, a3, a4, .slice A n c, a6, a7]) 5).run Tryz.prog w = .ok (.slice A n c) w := by kernel_rfl
attribute [local go_sem] target_ofr names_ofr
set_option maxHeartbeats 8000000 in
theorem rstat_any {P : Nat → Prop} (v : Value) (t : List Nd) (c : Wh) (A0 : Option Addr) (m k : Nat) (p : Nm) (f : Bool) (w : World) (h : NsR P w v t) (ht : Trx t) (hc : CrR w c A0 m k) (hp : p.length ≤ 1000) (X : Sta × Int) (hX : staM t c p f = X) :
    Calls Tryz.prog 23 #[.agg #[v], .agg #[.int .i64 c.u, .int .i64 c.g, .slice A0 m k], .string (bA p), .bool f] w fun e w' => e = .returned (.tuple #[stV X.1, .int .i64 X.2]) ∧ Below w.heap.size w w' := by
  obtain ⟨g, cc, rfl⟩ := ns_form h
  have hb0 := ba w (.cells #[.slice (some ⟨g, 0, none⟩) t.length cc] 32)
  have hq0 := Blk.new w 32 #[.slice (some ⟨g, 0, none⟩) t.length cc]
  obtain ⟨W0, hW0⟩ : ∃ W0, w.alloc (.cells #[.slice (some ⟨g, 0, none⟩) t.length cc] 32) = W0 := ⟨_, rfl⟩
  rw [hW0] at hb0 hq0
  have hb1 := al hb0 (.cells #[.int .i64 c.u, .int .i64 c.g, .slice A0 m k] 37)
  have hq1 := hq0.below (ba W0 (.cells #[.int .i64 c.u, .int .i64 c.g, .slice A0 m k] 37))
  have hk1 := Blk.new W0 37 #[.int .i64 c.u, .int .i64 c.g, .slice A0 m k]
  obtain ⟨W1, hW1⟩ : ∃ W1, W0.alloc (.cells #[.int .i64 c.u, .int .i64 c.g, .slice A0 m k] 37) = W1 := ⟨_, rfl⟩
  rw [hW1] at hb1 hk1 hq1
  have hb2 := al hb1 (.cells #[.int .i64 0, .int .i64 0, .int .i64 0, .int .i64 0, .int .i64 0, .int .i64 0, .int .i64 0] 47)
  have hk2 := hk1.below (ba W1 (.cells #[.int .i64 0, .int .i64 0, .int .i64 0, .int .i64 0, .int .i64 0, .int .i64 0, .int .i64 0] 47))
  have hq2 := hq1.below (ba W1 (.cells #[.int .i64 0, .int .i64 0, .int .i64 0, .int .i64 0, .int .i64 0, .int .i64 0, .int .i64 0] 47))
  have hr2 := Blk.new W1 47 #[.int .i64 0, .int .i64 0, .int .i64 0, .int .i64 0, .int .i64 0, .int .i64 0, .int .i64 0]
  obtain ⟨W2, hW2⟩ : ∃ W2, W1.alloc (.cells #[.int .i64 0, .int .i64 0, .int .i64 0, .int .i64 0, .int .i64 0, .int .i64 0, .int .i64 0] 47) = W2 := ⟨_, rfl⟩
  rw [hW2] at hb2 hk2 hr2 hq2
  obtain ⟨C0, hC0⟩ : ∃ C0, W0.heap.size = C0 := ⟨_, rfl⟩
  rw [hC0] at hk1 hk2
  obtain ⟨R, hR1⟩ : ∃ R, W1.heap.size = R := ⟨_, rfl⟩
  rw [hR1] at hr2
  have HRW := Lib.hid (show w.heap.size ≤ R by rw [← hR1]; exact hb1.size)
  have HLT := Lib.hid (show w.heap.size < R by rw [← hR1]; exact hq1.lt)
  obtain ⟨FE, hFE⟩ : ∃ FE, resM t c p f = FE := ⟨_, rfl⟩
  obtain ⟨F, E⟩ := FE
  have HRS := Lib.hid (rres_any _ t c A0 m k p f W2 (h.below hb2) ht.le ht.ok (hc.below hb2) hp (F, E) hFE)
  have HT := Lib.hid (h.below hb2)
  have HTR := Lib.hid ht
  have HB2 := Lib.hid hb2
  have HQ2 := Lib.hid hq2
  have HR2 := Lib.hid hr2
  have HX := Lib.hid (show (if E ≠ 0 then (Sta.zero, E) else if F.node = 0 then (Sta.zero, 2) else (staT t F.node, 0)) = X from by have h1 := staM_ref ht c p f; rw [hFE] at h1; exact h1.symm.trans hX)
  clear h hc hb0 hb1 hb2 hr2 hX hFE hk1 hq0 hq1 ht hp
  obtain ⟨k0, k1, k2⟩ := hk2.c3
  have t0 := hq2.cell 0
  simp at t0
  clear hk2 hq2
  go_enter Tryz.func23, Tryz.ntmps23
  go_wp2_with fail
  clear hW0 hW1 hW2 hR1 hC0
  refine HRS.out.mono ?_
  rintro e w3 ⟨rfl, hb3⟩
  have hbx := al hb3 (.cells #[.int .i64 F.dir, .string (bA F.name), .int .i64 F.node] 96)
  have HB4 := Lib.hid (bt hbx HB2.out)
  have HT4 := Lib.hid (HT.out.below hbx)
  have hr4 := HR2.out.below hbx
  have hq4 := HQ2.out.below hbx
  have hf4 := Blk.new w3 96 #[.int .i64 F.dir, .string (bA F.name), .int .i64 F.node]
  obtain ⟨y, hy⟩ : ∃ y, w3.heap.size = y := ⟨_, rfl⟩
  obtain ⟨W4, hW4⟩ : ∃ W4, w3.alloc (.cells #[.int .i64 F.dir, .string (bA F.name), .int .i64 F.node] 96) = W4 := ⟨_, rfl⟩
  rw [hW4] at HB4 HT4 hr4 hf4 hq4
  rw [hy] at hf4
  have HR4 := Lib.hid hr4
  clear hb3 hbx k0 k1 k2 HRS HT HR2 t0
  obtain ⟨b0, b1, b2⟩ := hf4.c3
  have t0 := hq4.cell 0
  simp at t0
  obtain ⟨x0, x1, x2, x3, x4, x5, x6⟩ := hr4.c7
  obtain ⟨q0, q1, q2, q3, q4, q5, q6⟩ := hr4.f7
  obtain ⟨s0, s1, s2, s3, s4, s5, s6⟩ := hr4.s7
  by_cases qE : E = 0
  · have qE1 : (E != 0) = false := by simpa using qE
    by_cases qN : F.node = 0
    · have qN1 : (F.node == 0) = true := by simpa using qN
      have HZ := Lib.hid (show X = (Sta.zero, 2) from by have h := HX.out; rw [if_neg (fun r => r qE), if_pos qN] at h; exact h.symm)
      have HG := Lib.hid (grown7 W4 R (.int .i64 0) (.int .i64 0) (.int .i64 0) (.int .i64 0) (.int .i64 0) (.int .i64 0) (.int .i64 0))
      clear qE qN hr4 hf4 hq4
      go_wp2
      exact bodyPost_ret (v := .tuple #[.agg #[.int .i64 0, .int .i64 0, .int .i64 0, .int .i64 0, .int .i64 0, .int .i64 0, .int .i64 0], .int .i64 2]) (by simp [results, Tryz.results23, go_sem, s0, s1, s2, s3, s4, s5, s6]) rfl ⟨by rw [HZ.out]; rfl, below_grown HB4.out HG.out HRW.out⟩
    · have qN1 : (F.node == 0) = false := by simpa using qN
      obtain ⟨S, hS⟩ : ∃ S, staT t F.node = S := ⟨_, rfl⟩
      have HO := Lib.hid (rof_any _ t F.node W4 HT4.out HTR.out.le HTR.out.ok)
      have HZ := Lib.hid (show X = (S, 0) from by have h := HX.out; rw [if_neg (fun r => r qE), if_neg qN, hS] at h; exact h.symm)
      rw [hS] at HO
      unfold stV stC at HO
      clear qE qN hr4 hf4 hq4 hS x0 x1 x2 x3 x4 x5 x6 q0 q1 q2 q3 q4 q5 q6 s0 s1 s2 s3 s4 s5 s6
      go_wp2_with fail
      clear hW4 hy
      refine HO.out.mono ?_
      rintro e w5 ⟨rfl, hb5⟩
      have HB5 := Lib.hid (bt hb5 HB4.out)
      have hr5 := HR4.out.below hb5
      obtain ⟨x0, x1, x2, x3, x4, x5, x6⟩ := hr5.c7
      obtain ⟨q0, q1, q2, q3, q4, q5, q6⟩ := hr5.f7
      obtain ⟨s0, s1, s2, s3, s4, s5, s6⟩ := hr5.s7
      have HG := Lib.hid (grown7 w5 R (.int .i64 S.node) (.int .i64 S.kind) (.int .i64 S.mode) (.int .i64 S.uid) (.int .i64 S.gid) (.int .i64 S.links) (.int .i64 S.size))
      clear hb5 hr5 b0 b1 b2 t0
      go_wp2
      exact bodyPost_ret (v := .tuple #[.agg #[.int .i64 S.node, .int .i64 S.kind, .int .i64 S.mode, .int .i64 S.uid, .int .i64 S.gid, .int .i64 S.links, .int .i64 S.size], .int .i64 0]) (by simp [results, Tryz.results23, go_sem, s0, s1, s2, s3, s4, s5, s6]) rfl ⟨by rw [HZ.out]; rfl, below_grown HB5.out HG.out HRW.out⟩
  · have qE1 : (E != 0) = true := by simpa using qE
    have HZ := Lib.hid (show X = (Sta.zero, E) from by have h := HX.out; rw [if_pos qE] at h; exact h.symm)
    have HG := Lib.hid (grown7 W4 R (.int .i64 0) (.int .i64 0) (.int .i64 0) (.int .i64 0) (.int .i64 0) (.int .i64 0) (.int .i64 0))
    clear qE hr4 hf4 hq4
    go_wp2
    exact bodyPost_ret (v := .tuple #[.agg #[.int .i64 0, .int .i64 0, .int .i64 0, .int .i64 0, .int .i64 0, .int .i64 0, .int .i64 0], .int .i64 E]) (by simp [results, Tryz.results23, go_sem, s0, s1, s2, s3, s4, s5, s6]) rfl ⟨by rw [HZ.out]; rfl, below_grown HB4.out HG.out HRW.out⟩
end Go.Proofs.YtinalglbibmmpaaGreat
