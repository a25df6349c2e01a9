/-
  The reference's Chown. The conditions: a tree, a short path.
-/
import Derived.Test.YtinalglbibmmpaaGreatRCh
namespace Go.Proofs.YtinalglbibmmpaaGreat
open Go Go.RowKit
set_option maxRecDepth 100000

attribute [local go_sem] cell_off4 cell_blk4
set_option maxHeartbeats 8000000 in
theorem rchown_any {P : Nat → Prop} (v : Value) (t : List Nd) (c : Wh) (A0 : Option Addr) (m k : Nat) (p : Nm) (uid gid : Int) (f : Bool) (w : World) (h : NsR P w v t) (ht : Trx t) (hc : CrR w c A0 m k) (hp : p.length ≤ 1000) (hP : ∀ b, w.heap.size ≤ b → P b) :
    Calls Tryz.prog 13 #[.agg #[v], .agg #[.int .i64 c.u, .int .i64 c.g, .slice A0 m k], .string (bA p), .int .i64 uid, .int .i64 gid, .bool f] w (RcA P w (chwT t c p uid gid f) (chwE t c p uid gid f)) := by
  obtain ⟨g, cc, rfl⟩ := ns_form h
  obtain ⟨CE, hCE⟩ : ∃ CE, chwE t c p uid gid f = CE := ⟨_, rfl⟩
  obtain ⟨CT, hCT⟩ : ∃ CT, chwT t c p uid gid f = CT := ⟨_, rfl⟩
  obtain ⟨XE, hXE⟩ : ∃ XE, staM t c p f = XE := ⟨_, rfl⟩
  obtain ⟨X, E⟩ := XE
  have hxu : E = 0 → X.uid = (tget t X.node).uid ∧ X.gid = (tget t X.node).gid ∧ (1 ≤ X.node ∧ X.node ≤ t.length) := fun q => by
    have hz : (staM t c p f).2 = 0 := by rw [hXE]; exact q
    obtain ⟨-, d2, -, d4⟩ := staM_zero hz
    rw [hXE] at d2 d4
    have d5 : X = staT t X.node := d4
    have d6 := sta_is d2
    exact ⟨by rw [d5, d6], by rw [d5, d6], tis_in d2⟩
  have A22 := Lib.hid (show 65535 < uid ∨ 65535 < gid → CE = 22 ∧ CT = t from fun q => by
    have e1 : chwE t c p uid gid f = 22 := if_pos q
    exact ⟨by rw [← hCE, e1], by rw [← hCT]; exact chwT_err (by rw [e1]; decide)⟩)
  have AE := Lib.hid (show uid ≤ 65535 ∧ gid ≤ 65535 → E ≠ 0 → CE = E ∧ CT = t from fun q r => by
    have e1 : chwE t c p uid gid f = E := by rw [chwE_in q.1 q.2, hXE]; exact if_pos r
    exact ⟨by rw [← hCE, e1], by rw [← hCT]; exact chwT_err (by rw [e1]; exact r)⟩)
  have A1 := Lib.hid (show uid ≤ 65535 ∧ gid ≤ 65535 → E = 0 → mayO c (tget t X.node) uid gid = false → CE = 1 ∧ CT = t from fun q r s => by
    have e1 : chwE t c p uid gid f = 1 := by
      rw [chwE_in q.1 q.2, hXE]
      unfold chwF
      rw [if_neg (fun z => z r)]
      exact if_pos s
    exact ⟨by rw [← hCE, e1], by rw [← hCT]; exact chwT_err (by rw [e1]; decide)⟩)
  have AZ := Lib.hid (show uid ≤ 65535 ∧ gid ≤ 65535 → E = 0 → mayO c (tget t X.node) uid gid = true → CE = 0 ∧ (uid < 0 ∧ gid < 0 → CT = t) ∧ (¬ (uid < 0 ∧ gid < 0) → CT = setT t X.node (chwN c (tget t X.node) uid gid)) from fun q r s => by
    have e1 : chwE t c p uid gid f = 0 := by
      rw [chwE_in q.1 q.2, hXE]
      unfold chwF
      rw [if_neg (fun z => z r)]
      exact if_neg (by rw [s]; decide)
    refine ⟨by rw [← hCE, e1], fun hn => by rw [← hCT]; exact chwT_none hn, fun hn => ?_⟩
    rw [← hCT, chwT_set e1 hn, hXE])
  rw [hCE, hCT]
  clear hCE hCT
  have hb0 := ba w (.cells #[.slice (some ⟨g, 0, none⟩) t.length cc] 32)
  have hq0 := Blk.new w 32 #[.slice (some ⟨g, 0, none⟩) t.length cc]
  obtain ⟨W0, hW0⟩ : ∃ W0, w.alloc (.cells #[.slice (some ⟨g, 0, none⟩) t.length cc] 32) = W0 := ⟨_, rfl⟩
  rw [hW0] at hb0 hq0
  have hb1 := al hb0 (.cells #[.int .i64 c.u, .int .i64 c.g, .slice A0 m k] 37)
  have hq1 := hq0.below (ba W0 (.cells #[.int .i64 c.u, .int .i64 c.g, .slice A0 m k] 37))
  have hk1 := Blk.new W0 37 #[.int .i64 c.u, .int .i64 c.g, .slice A0 m k]
  obtain ⟨W1, hW1⟩ : ∃ W1, W0.alloc (.cells #[.int .i64 c.u, .int .i64 c.g, .slice A0 m k] 37) = W1 := ⟨_, rfl⟩
  rw [hW1] at hb1 hk1 hq1
  have hb2 := al hb1 (.cells #[.slice none 0 0] 32)
  have hk2 := hk1.below (ba W1 (.cells #[.slice none 0 0] 32))
  have hq2 := hq1.below (ba W1 (.cells #[.slice none 0 0] 32))
  have hr2 := Blk.new W1 32 #[.slice none 0 0]
  obtain ⟨W2, hW2⟩ : ∃ W2, W1.alloc (.cells #[.slice none 0 0] 32) = W2 := ⟨_, rfl⟩
  rw [hW2] at hb2 hk2 hr2 hq2
  obtain ⟨C0, hC0⟩ : ∃ C0, W0.heap.size = C0 := ⟨_, rfl⟩
  rw [hC0] at hk1 hk2
  obtain ⟨R, hR1⟩ : ∃ R, W1.heap.size = R := ⟨_, rfl⟩
  rw [hR1] at hr2
  have HRW := Lib.hid (show w.heap.size ≤ R by rw [← hR1]; exact hb1.size)
  have HN2 := Lib.hid (show NsR (fun b => P b ∧ b ≠ R) W2 (.slice (some ⟨g, 0, none⟩) t.length cc) t from (h.mono (fun b hb hl => ⟨hb, by have := HRW.out; omega⟩)).below hb2)
  have HRS := Lib.hid (fun (q : uid ≤ 65535 ∧ gid ≤ 65535) => rstat_any (.slice (some ⟨g, 0, none⟩) t.length cc) t c A0 m k p f W2 (h.below hb2) ht (hc.below hb2) hp (X, E) hXE)
  have HXU := Lib.hid hxu
  have HTL := Lib.hid ht.le
  have HC := Lib.hid hc
  have HP := Lib.hid hP
  have HB2 := Lib.hid hb2
  have HQ2 := Lib.hid hq2
  have HR2 := Lib.hid hr2
  have HK2 := Lib.hid hk2
  obtain ⟨k0, k1, k2⟩ := hk2.c3
  have t0 := hq2.cell 0
  have r0 := hr2.cell 0
  have r1 := hr2.frozen 0
  simp at t0 r0
  have s0 : ∀ u, (W2.setCell ⟨R, 0, none⟩ u).cell? ⟨R, 0, none⟩ = some u := fun u => (hr2.set_ 0 u).cell 0
  clear h hc hb0 hb1 hb2 hr2 hk1 hk2 hq0 hq1 hq2 ht hp hP hxu hXE
  by_cases q0 : uid > 65535
  · have HA := Lib.hid (A22.out (.inl q0))
    go_enter Tryz.func13, Tryz.ntmps13
    go_wp2
    exact bodyPost_ret (v := .tuple #[.agg #[.slice (some ⟨g, 0, none⟩) t.length cc], .int .i64 22]) (by simp [results, Tryz.results13, go_sem, s0]) rfl (rca_back HN2.out HB2.out HRW.out (HA.out).1 (HA.out).2)
  · by_cases q1 : gid > 65535
    · have HA := Lib.hid (A22.out (.inr q1))
      go_enter Tryz.func13, Tryz.ntmps13
      go_wp2
      exact bodyPost_ret (v := .tuple #[.agg #[.slice (some ⟨g, 0, none⟩) t.length cc], .int .i64 22]) (by simp [results, Tryz.results13, go_sem, s0]) rfl (rca_back HN2.out HB2.out HRW.out (HA.out).1 (HA.out).2)
    · have HQ := Lib.hid (show uid ≤ 65535 ∧ gid ≤ 65535 from ⟨by omega, by omega⟩)
      have HST := Lib.hid (HRS.out HQ.out)
      unfold stV stC at HST
      go_enter Tryz.func13, Tryz.ntmps13
      go_wp2_with fail
      clear hW0 hW1 hW2 hR1 hC0
      refine HST.out.mono ?_
      rintro e w3 ⟨rfl, hb3⟩
      have hbx := al hb3 (.cells #[.int .i64 X.node, .int .i64 X.kind, .int .i64 X.mode, .int .i64 X.uid, .int .i64 X.gid, .int .i64 X.links, .int .i64 X.size] 47)
      have HB4 := Lib.hid (bt hbx HB2.out)
      have HN4 := Lib.hid (HN2.out.below hbx)
      have hr4 := HR2.out.below hbx
      have hq4 := HQ2.out.below hbx
      have hk4 := HK2.out.below hbx
      have hs4 := Blk.new w3 47 #[.int .i64 X.node, .int .i64 X.kind, .int .i64 X.mode, .int .i64 X.uid, .int .i64 X.gid, .int .i64 X.links, .int .i64 X.size]
      obtain ⟨y, hy⟩ : ∃ y, w3.heap.size = y := ⟨_, rfl⟩
      obtain ⟨W4, hW4⟩ : ∃ W4, w3.alloc (.cells #[.int .i64 X.node, .int .i64 X.kind, .int .i64 X.mode, .int .i64 X.uid, .int .i64 X.gid, .int .i64 X.links, .int .i64 X.size] 47) = W4 := ⟨_, rfl⟩
      rw [hW4] at HB4 HN4 hr4 hq4 hk4 hs4
      rw [hy] at hs4
      have HR4 := Lib.hid hr4
      have HQ4 := Lib.hid hq4
      have HK4 := Lib.hid hk4
      have HS4 := Lib.hid hs4
      clear hb3 hbx k0 k1 k2 t0 r0 r1 s0 HRS HST HN2 HR2 HQ2 HK2
      obtain ⟨k0, k1, k2⟩ := hk4.c3
      obtain ⟨x0, x1, x2, x3, x4, x5, x6⟩ := hs4.c7
      have t0 := hq4.cell 0
      have r0 := hr4.cell 0
      have r1 := hr4.frozen 0
      simp at t0 r0
      have s0 : ∀ u, (W4.setCell ⟨R, 0, none⟩ u).cell? ⟨R, 0, none⟩ = some u := fun u => (hr4.set_ 0 u).cell 0
      clear hr4 hq4 hk4 hs4
      by_cases qE : E = 0
      · have qE1 : (E != 0) = false := by simpa using qE
        obtain ⟨u1, u2, u3⟩ := HXU.out qE
        have HIN := Lib.hid u3
        obtain ⟨mq, hmq⟩ : ∃ mq, mayO c (tget t X.node) uid gid = mq := ⟨_, rfl⟩
        have HMO := Lib.hid (show Calls Tryz.prog 32 #[.agg #[.int .i64 c.u, .int .i64 c.g, .slice A0 m k], .int .i64 X.uid, .int .i64 X.gid, .int .i64 uid, .int .i64 gid] W4 fun e w' => e = .returned (.bool mq) ∧ Below W4.heap.size W4 w' from by have h1 := rmayOwn_any c.u c.g A0 m k c.gs X.uid X.gid uid gid W4 (HC.out.below HB4.out).1 (by have := HC.out.2; omega); rw [show mayOwn c.u c.g c.gs X.uid X.gid uid gid = mq from by rw [u1, u2]; exact hmq] at h1; exact h1)
        clear u1 u2 u3
        go_wp2_with fail
        clear hW4 hy
        refine HMO.out.mono ?_
        rintro e w5 ⟨rfl, hb⟩
        have hr := HR4.out.below hb
        have hq := HQ4.out.below hb
        have hk := HK4.out.below hb
        have hs := HS4.out.below hb
        have HB5 := Lib.hid (bt hb HB4.out)
        have HN5 := Lib.hid (HN4.out.below hb)
        have HR5 := Lib.hid hr
        have HQ5 := Lib.hid hq
        have HK5 := Lib.hid hk
        have HS5 := Lib.hid hs
        clear hb k0 k1 k2 x0 x1 x2 x3 x4 x5 x6 t0 r0 r1 s0
        obtain ⟨k0, k1, k2⟩ := hk.c3
        obtain ⟨x0, x1, x2, x3, x4, x5, x6⟩ := hs.c7
        have t0 := hq.cell 0
        have r0 := hr.cell 0
        have r1 := hr.frozen 0
        simp at t0 r0
        have s0 : ∀ u, (w5.setCell ⟨R, 0, none⟩ u).cell? ⟨R, 0, none⟩ = some u := fun u => (hr.set_ 0 u).cell 0
        clear hr hq hk hs
        cases mq with
        | false =>
          have HA := Lib.hid (A1.out HQ.out qE hmq)
          clear hmq
          go_wp2
          exact bodyPost_ret (v := .tuple #[.agg #[.slice (some ⟨g, 0, none⟩) t.length cc], .int .i64 1]) (by simp [results, Tryz.results13, go_sem, s0]) rfl (rca_back HN5.out HB5.out HRW.out (HA.out).1 (HA.out).2)
        | true =>
          have HA := Lib.hid (AZ.out HQ.out qE hmq)
          clear hmq
          have HGT := Lib.hid (rgetp_any (P := fun b => P b ∧ b ≠ R) (.slice (some ⟨g, 0, none⟩) t.length cc) t X.node w5 HN5.out HIN.out HTL.out)
          generalize tget t X.node = n at HGT HA
          go_wp2_with fail
          refine HGT.out.mono ?_
          rintro e w6 ⟨vn, vk, rfl, hn6, hk6, ln6, lk6, hb⟩
          have hbx := al hb (.cells (rfC n vn vk) 61)
          have hz := Blk.new w6 61 (rfC n vn vk)
          have HZR := Lib.hid (show R ≠ w6.heap.size from Nat.ne_of_lt (HR5.out.below hb).lt)
          have HZQ := Lib.hid (show w.heap.size ≠ w6.heap.size from Nat.ne_of_lt (HQ5.out.below hb).lt)
          have HZK := Lib.hid (show C0 ≠ w6.heap.size from Nat.ne_of_lt (HK5.out.below hb).lt)
          have HZS := Lib.hid (show y ≠ w6.heap.size from Nat.ne_of_lt (HS5.out.below hb).lt)
          have HZL := Lib.hid (show w.heap.size ≤ w6.heap.size from (bt hb HB5.out).size)
          have HN7 := Lib.hid (show NsR (fun b => (P b ∧ b ≠ R) ∧ b ≠ w6.heap.size) (w6.alloc (.cells (rfC n vn vk) 61)) (.slice (some ⟨g, 0, none⟩) t.length cc) t from ((HN5.out.below hb).mono (fun _ h1 h2 => ⟨h1, Nat.ne_of_lt h2⟩)).below (ba w6 _))
          have hn7 := hn6.below (ba w6 (.cells (rfC n vn vk) 61))
          have hk7 := hk6.below (ba w6 (.cells (rfC n vn vk) 61))
          have ln7 := ln6.mono (fun b h1 => (⟨h1.1, by have := hb.size; have := h1.2; omega⟩ : (P b ∧ b ≠ R) ∧ b ≠ w6.heap.size))
          have lk7 := lk6.mono (fun b h1 => (⟨h1.1, by have := hb.size; have := h1.2; omega⟩ : (P b ∧ b ≠ R) ∧ b ≠ w6.heap.size))
          have ln8 := ln6.mono (fun b h1 => (show b < w6.heap.size from Nat.lt_of_lt_of_le h1.2 hb.size))
          have lk8 := lk6.mono (fun b h1 => (show b < w6.heap.size from Nat.lt_of_lt_of_le h1.2 hb.size))
          have hl78 := (ba w6 (.cells (rfC n vn vk) 61)).size
          obtain ⟨A1', k1', rfl⟩ := strs_form hn6 (nm_len _)
          obtain ⟨A2', k2', rfl⟩ := ints_form hk6 (idE_len _)
          have hr := HR5.out.below hbx
          have hq := HQ5.out.below hbx
          have hk := HK5.out.below hbx
          have hs := HS5.out.below hbx
          obtain ⟨z, hzz⟩ : ∃ z, w6.heap.size = z := ⟨_, rfl⟩
          obtain ⟨W7, hW7⟩ : ∃ W7, w6.alloc (.cells (rfC n (.slice A1' n.ents.length k1') (.slice A2' n.ents.length k2')) 61) = W7 := ⟨_, rfl⟩
          rw [hW7] at hbx HN7 hn7 hk7 hr hq hk hs hz hl78
          rw [hzz] at HN7 hz HZR HZQ HZK HZS HZL ln7 lk7 ln8 lk8 hl78
          have HB7 := Lib.hid (bt hbx HB5.out)
          have HR7 := Lib.hid hr
          have HQ7 := Lib.hid hq
          have HK7 := Lib.hid hk
          have HS7 := Lib.hid hs
          have HZ7 := Lib.hid hz
          have HLS := Lib.hid (show StrsR W7 (.slice A1' n.ents.length k1') (nmA (nmE n.ents)) ∧ IntsR W7 (.slice A2' n.ents.length k2') (idE n.ents) from ⟨hn7, hk7⟩)
          have HLP := Lib.hid (show LP (fun b => (P b ∧ b ≠ R) ∧ b ≠ z) (.slice A1' n.ents.length k1') ∧ LP (fun b => (P b ∧ b ≠ R) ∧ b ≠ z) (.slice A2' n.ents.length k2') from ⟨ln7, lk7⟩)
          have HLQ := Lib.hid (show LP (fun b => b < z) (.slice A1' n.ents.length k1') ∧ LP (fun b => b < z) (.slice A2' n.ents.length k2') from ⟨ln8, lk8⟩)
          have HZW := Lib.hid (show z ≤ W7.heap.size from hl78)
          clear hn6 hk6 ln6 lk6 hb hbx hn7 hk7 ln7 lk7 ln8 lk8 hl78 k0 k1 k2 x0 x1 x2 x3 x4 x5 x6 t0 r0 r1 s0
          obtain ⟨k0, k1, k2⟩ := hk.c3
          obtain ⟨x0, x1, x2, x3, x4, x5, x6⟩ := hs.c7
          obtain ⟨z0, z1, z2, z3, z4, z5, z6, z7⟩ := hz.c8
          obtain ⟨f0, f1, f2, f3, f4, f5, f6, f7⟩ := hz.f8
          have t0 := hq.cell 0
          have r0 := hr.cell 0
          have r1 := hr.frozen 0
          simp at t0 r0
          have s0 : ∀ u, (W7.setCell ⟨R, 0, none⟩ u).cell? ⟨R, 0, none⟩ = some u := fun u => (hr.set_ 0 u).cell 0
          clear hr hq hk hs hz
          obtain ⟨M, hM⟩ : ∃ M, writM c.u n.kind n.mode = M := ⟨_, rfl⟩
          have HMM := Lib.hid hM
          clear hM
          by_cases hu : uid < 0
          · by_cases hg : gid < 0
            · have HT := Lib.hid (show CT = t from HA.out.2.1 ⟨hu, hg⟩)
              have HN8 := Lib.hid (HN7.out.mono (Q := fun b => P b ∧ b ≠ R) (fun _ h1 _ => h1.1))
              go_wp2
              exact bodyPost_ret (v := .tuple #[.agg #[.slice (some ⟨g, 0, none⟩) t.length cc], .int .i64 0]) (by simp [results, Tryz.results13, go_sem, s0]) rfl (rca_back HN8.out HB7.out HRW.out HA.out.1 HT.out)
            · have HU := Lib.hid hu
              have HG := Lib.hid hg
              have HNEG := Lib.hid (show ¬ (uid < 0 ∧ gid < 0) from fun q => hg q.2)
              have hg' : gid ≥ 0 := by omega
              have hu' : ¬ uid ≥ 0 := by omega
              have HBW := Lib.hid (below_grown HB7.out (grown_setCell W7 ⟨z, 3, none⟩ (.int .i64 gid)) HZL.out)
              have HMC := Lib.hid (show Calls Tryz.prog 33 #[.agg #[.int .i64 c.u, .int .i64 c.g, .slice A0 m k], .int .i64 n.kind, .int .i64 n.mode] (W7.setCell ⟨z, 3, none⟩ (.int .i64 gid)) fun e w' => e = .returned (.int .i64 M) ∧ Below ((W7.setCell ⟨z, 3, none⟩ (.int .i64 gid))).heap.size ((W7.setCell ⟨z, 3, none⟩ (.int .i64 gid))) w' from by have h1 := rwritten_any c.u c.g A0 m k n.kind n.mode ((W7.setCell ⟨z, 3, none⟩ (.int .i64 gid))); rw [HMM.out] at h1; exact h1)
              have HGW := Lib.hid (grown_setCell W7 ⟨z, 3, none⟩ (.int .i64 gid))
              have HZB := Lib.hid (show Blk (W7.setCell ⟨z, 3, none⟩ (.int .i64 gid)) z 61 (rfC (modN n n.mode n.uid gid) (.slice A1' n.ents.length k1') (.slice A2' n.ents.length k2')) from (rf_three HZ7.out gid))
              have hk := HK7.out.kept (grown_setCell W7 ⟨z, 3, none⟩ (.int .i64 gid)) (some_ne HZK.out)
              obtain ⟨l0, l1, l2⟩ := hk.c3
              obtain ⟨m0, m1, m2, m3, m4, m5, m6, m7⟩ := HZB.out.c8
              clear hk
              go_wp2_with fail
              clear hW7 hzz
              refine HMC.out.mono ?_
              rintro e w8 ⟨rfl, hb8⟩
              have hg8 := grown_trans HGW.out (grown_below hb8 (some z))
              have hz8 := HZB.out.below hb8
              have hg9 := grown_trans hg8 (grown_setCell w8 ⟨z, 1, none⟩ (.int .i64 M))
              have hz9 := rf_one hz8 M
              have HZ9 := Lib.hid hz9
              have HG9 := Lib.hid hg9
              have hq := HQ7.out.kept hg9 (some_ne HZQ.out)
              have hr := HR7.out.kept hg9 (some_ne HZR.out)
              have hs := HS7.out.kept hg9 (some_ne HZS.out)
              have HR9 := Lib.hid hr
              have HB9 := Lib.hid (below_grown HB7.out hg9 HZL.out)
              clear l0 l1 l2 m0 m1 m2 m3 m4 m5 m6 m7 k0 k1 k2 x0 x1 x2 x3 x4 x5 x6 t0 r0 r1 s0 z0 z1 z2 z3 z4 z5 z6 z7 f0 f1 f2 f3 f4 f5 f6 f7
              obtain ⟨y0, y1, y2, y3, y4, y5, y6, y7⟩ := hz8.c8
              obtain ⟨f0, f1, f2, f3, f4, f5, f6, f7⟩ := hz8.f8
              obtain ⟨x0, x1, x2, x3, x4, x5, x6⟩ := hs.c7
              have t0 := hq.cell 0
              simp at t0
              obtain ⟨z0, z1, z2, z3, z4, z5, z6, z7⟩ := hz9.c8
              obtain ⟨kk, hkk⟩ : ∃ kk : Nat, X.node = (kk : Int) + 1 := ⟨(X.node - 1).toNat, by have := HIN.out; omega⟩
              have HWI := Lib.hid (show Calls Tryz.prog 26 #[.agg #[.slice (some ⟨g, 0, none⟩) t.length cc], .int .i64 X.node, .agg (rfC (modN n M n.uid gid) (.slice A1' n.ents.length k1') (.slice A2' n.ents.length k2'))] (w8.setCell ⟨z, 1, none⟩ (.int .i64 M)) fun e w' => ∃ g' c', e = .returned (.agg #[.slice (some ⟨g', 0, none⟩) t.length c']) ∧ RcA P w CT CE (.returned (.tuple #[.agg #[.slice (some ⟨g', 0, none⟩) t.length c'], .int .i64 0])) (w'.setCell ⟨R, 0, none⟩ (.slice (some ⟨g', 0, none⟩) t.length c')) ∧ Below (w8.setCell ⟨z, 1, none⟩ (.int .i64 M)).heap.size (w8.setCell ⟨z, 1, none⟩ (.int .i64 M)) w' from by
                obtain ⟨l1, l2⟩ := lists_kept (P := fun b => P b ∧ b ≠ R) HG9.out HLS.out.1 HLS.out.2 HLP.out.1 HLP.out.2
                have hin := HIN.out
                have hsz := HG9.out.size
                have h1 := rwith_any (P := fun b => (P b ∧ b ≠ R) ∧ b ≠ z) (.slice (some ⟨g, 0, none⟩) t.length cc) t kk (modN n M n.uid gid) (.slice A1' n.ents.length k1') (.slice A2' n.ents.length k2') (w8.setCell ⟨z, 1, none⟩ (.int .i64 M)) (w8.setCell ⟨z, 1, none⟩ (.int .i64 M)) (HN7.out.other HG9.out (fun _ hb => hb.2)) (Below.refl _ _) HTL.out (by omega) l1 l2
                  (fun ad n' c' hv => ⟨HLP.out.1 ad n' c' hv, by have h1 := HLQ.out.1 ad n' c' hv; have h2 := HZW.out; omega⟩) (fun ad n' c' hv => ⟨HLP.out.2 ad n' c' hv, by have h1 := HLQ.out.2 ad n' c' hv; have h2 := HZW.out; omega⟩)
                rw [← hkk] at h1
                refine h1.mono ?_
                rintro e w' ⟨v', rfl, hf, hb⟩
                have hlt : R < (w8.setCell ⟨z, 1, none⟩ (.int .i64 M)).heap.size := HR9.out.lt
                have hlz : z < (w8.setCell ⟨z, 1, none⟩ (.int .i64 M)).heap.size := HZ9.out.lt
                have hlw := HB9.out.size
                have h2 := hf.ns hb (fun b hb => ⟨⟨HP.out b (by omega), by omega⟩, by omega⟩)
                obtain ⟨g', c', rfl⟩ := ns_form h2
                rw [len_setT] at h2 ⊢
                refine ⟨g', c', rfl, ⟨_, by rw [HA.out.1], ?_, below_grown (bt hb HB9.out) (grown_setCell _ _ _) HRW.out⟩, hb⟩
                rw [(HA.out.2.2 HNEG.out), show chwN c n uid gid = modN n M n.uid gid from by unfold chwN; rw [HMM.out, if_pos HU.out, if_neg (by have := HG.out; omega)]]
                exact nsr_put (h2.mono (fun _ hb _ => hb.1)) _)
              clear hq hr hs hz8 hz9 hg8 hg9 hb8 hkk
              go_wp2_with fail
              refine HWI.out.mono ?_
              rintro e w10 ⟨g', c', rfl, hA, hb⟩
              have HAA := Lib.hid hA
              have hr := HR9.out.below hb
              have r0 := hr.cell 0
              have r1 := hr.frozen 0
              simp at r0
              have s0 : ∀ u, (w10.setCell ⟨R, 0, none⟩ u).cell? ⟨R, 0, none⟩ = some u := fun u => (hr.set_ 0 u).cell 0
              clear hA hb hr
              go_wp2
              exact bodyPost_ret (v := .tuple #[.agg #[.slice (some ⟨g', 0, none⟩) t.length c'], .int .i64 0]) (by simp [results, Tryz.results13, go_sem, s0]) rfl HAA.out
          · have hu' : uid ≥ 0 := by omega
            by_cases hg : gid < 0
            · have HU := Lib.hid hu
              have HG := Lib.hid hg
              have HNEG := Lib.hid (show ¬ (uid < 0 ∧ gid < 0) from fun q => hu q.1)
              have hg' : ¬ gid ≥ 0 := by omega
              have HBW := Lib.hid (below_grown HB7.out (grown_setCell W7 ⟨z, 2, none⟩ (.int .i64 uid)) HZL.out)
              have HMC := Lib.hid (show Calls Tryz.prog 33 #[.agg #[.int .i64 c.u, .int .i64 c.g, .slice A0 m k], .int .i64 n.kind, .int .i64 n.mode] (W7.setCell ⟨z, 2, none⟩ (.int .i64 uid)) fun e w' => e = .returned (.int .i64 M) ∧ Below ((W7.setCell ⟨z, 2, none⟩ (.int .i64 uid))).heap.size ((W7.setCell ⟨z, 2, none⟩ (.int .i64 uid))) w' from by have h1 := rwritten_any c.u c.g A0 m k n.kind n.mode ((W7.setCell ⟨z, 2, none⟩ (.int .i64 uid))); rw [HMM.out] at h1; exact h1)
              have HGW := Lib.hid (grown_setCell W7 ⟨z, 2, none⟩ (.int .i64 uid))
              have HZB := Lib.hid (show Blk (W7.setCell ⟨z, 2, none⟩ (.int .i64 uid)) z 61 (rfC (modN n n.mode uid n.gid) (.slice A1' n.ents.length k1') (.slice A2' n.ents.length k2')) from (rf_two HZ7.out uid))
              have hk := HK7.out.kept (grown_setCell W7 ⟨z, 2, none⟩ (.int .i64 uid)) (some_ne HZK.out)
              obtain ⟨l0, l1, l2⟩ := hk.c3
              obtain ⟨m0, m1, m2, m3, m4, m5, m6, m7⟩ := HZB.out.c8
              clear hk
              go_wp2_with fail
              clear hW7 hzz
              refine HMC.out.mono ?_
              rintro e w8 ⟨rfl, hb8⟩
              have hg8 := grown_trans HGW.out (grown_below hb8 (some z))
              have hz8 := HZB.out.below hb8
              have hg9 := grown_trans hg8 (grown_setCell w8 ⟨z, 1, none⟩ (.int .i64 M))
              have hz9 := rf_one hz8 M
              have HZ9 := Lib.hid hz9
              have HG9 := Lib.hid hg9
              have hq := HQ7.out.kept hg9 (some_ne HZQ.out)
              have hr := HR7.out.kept hg9 (some_ne HZR.out)
              have hs := HS7.out.kept hg9 (some_ne HZS.out)
              have HR9 := Lib.hid hr
              have HB9 := Lib.hid (below_grown HB7.out hg9 HZL.out)
              clear l0 l1 l2 m0 m1 m2 m3 m4 m5 m6 m7 k0 k1 k2 x0 x1 x2 x3 x4 x5 x6 t0 r0 r1 s0 z0 z1 z2 z3 z4 z5 z6 z7 f0 f1 f2 f3 f4 f5 f6 f7
              obtain ⟨y0, y1, y2, y3, y4, y5, y6, y7⟩ := hz8.c8
              obtain ⟨f0, f1, f2, f3, f4, f5, f6, f7⟩ := hz8.f8
              obtain ⟨x0, x1, x2, x3, x4, x5, x6⟩ := hs.c7
              have t0 := hq.cell 0
              simp at t0
              obtain ⟨z0, z1, z2, z3, z4, z5, z6, z7⟩ := hz9.c8
              obtain ⟨kk, hkk⟩ : ∃ kk : Nat, X.node = (kk : Int) + 1 := ⟨(X.node - 1).toNat, by have := HIN.out; omega⟩
              have HWI := Lib.hid (show Calls Tryz.prog 26 #[.agg #[.slice (some ⟨g, 0, none⟩) t.length cc], .int .i64 X.node, .agg (rfC (modN n M uid n.gid) (.slice A1' n.ents.length k1') (.slice A2' n.ents.length k2'))] (w8.setCell ⟨z, 1, none⟩ (.int .i64 M)) fun e w' => ∃ g' c', e = .returned (.agg #[.slice (some ⟨g', 0, none⟩) t.length c']) ∧ RcA P w CT CE (.returned (.tuple #[.agg #[.slice (some ⟨g', 0, none⟩) t.length c'], .int .i64 0])) (w'.setCell ⟨R, 0, none⟩ (.slice (some ⟨g', 0, none⟩) t.length c')) ∧ Below (w8.setCell ⟨z, 1, none⟩ (.int .i64 M)).heap.size (w8.setCell ⟨z, 1, none⟩ (.int .i64 M)) w' from by
                obtain ⟨l1, l2⟩ := lists_kept (P := fun b => P b ∧ b ≠ R) HG9.out HLS.out.1 HLS.out.2 HLP.out.1 HLP.out.2
                have hin := HIN.out
                have hsz := HG9.out.size
                have h1 := rwith_any (P := fun b => (P b ∧ b ≠ R) ∧ b ≠ z) (.slice (some ⟨g, 0, none⟩) t.length cc) t kk (modN n M uid n.gid) (.slice A1' n.ents.length k1') (.slice A2' n.ents.length k2') (w8.setCell ⟨z, 1, none⟩ (.int .i64 M)) (w8.setCell ⟨z, 1, none⟩ (.int .i64 M)) (HN7.out.other HG9.out (fun _ hb => hb.2)) (Below.refl _ _) HTL.out (by omega) l1 l2
                  (fun ad n' c' hv => ⟨HLP.out.1 ad n' c' hv, by have h1 := HLQ.out.1 ad n' c' hv; have h2 := HZW.out; omega⟩) (fun ad n' c' hv => ⟨HLP.out.2 ad n' c' hv, by have h1 := HLQ.out.2 ad n' c' hv; have h2 := HZW.out; omega⟩)
                rw [← hkk] at h1
                refine h1.mono ?_
                rintro e w' ⟨v', rfl, hf, hb⟩
                have hlt : R < (w8.setCell ⟨z, 1, none⟩ (.int .i64 M)).heap.size := HR9.out.lt
                have hlz : z < (w8.setCell ⟨z, 1, none⟩ (.int .i64 M)).heap.size := HZ9.out.lt
                have hlw := HB9.out.size
                have h2 := hf.ns hb (fun b hb => ⟨⟨HP.out b (by omega), by omega⟩, by omega⟩)
                obtain ⟨g', c', rfl⟩ := ns_form h2
                rw [len_setT] at h2 ⊢
                refine ⟨g', c', rfl, ⟨_, by rw [HA.out.1], ?_, below_grown (bt hb HB9.out) (grown_setCell _ _ _) HRW.out⟩, hb⟩
                rw [(HA.out.2.2 HNEG.out), show chwN c n uid gid = modN n M uid n.gid from by unfold chwN; rw [HMM.out, if_neg (by have := HU.out; omega), if_pos HG.out]]
                exact nsr_put (h2.mono (fun _ hb _ => hb.1)) _)
              clear hq hr hs hz8 hz9 hg8 hg9 hb8 hkk
              go_wp2_with fail
              refine HWI.out.mono ?_
              rintro e w10 ⟨g', c', rfl, hA, hb⟩
              have HAA := Lib.hid hA
              have hr := HR9.out.below hb
              have r0 := hr.cell 0
              have r1 := hr.frozen 0
              simp at r0
              have s0 : ∀ u, (w10.setCell ⟨R, 0, none⟩ u).cell? ⟨R, 0, none⟩ = some u := fun u => (hr.set_ 0 u).cell 0
              clear hA hb hr
              go_wp2
              exact bodyPost_ret (v := .tuple #[.agg #[.slice (some ⟨g', 0, none⟩) t.length c'], .int .i64 0]) (by simp [results, Tryz.results13, go_sem, s0]) rfl HAA.out
            · have HU := Lib.hid hu
              have HG := Lib.hid hg
              have HNEG := Lib.hid (show ¬ (uid < 0 ∧ gid < 0) from fun q => hu q.1)
              have hg' : gid ≥ 0 := by omega
              have HBW := Lib.hid (below_grown HB7.out (grown_trans (grown_setCell W7 ⟨z, 2, none⟩ (.int .i64 uid)) (grown_setCell _ ⟨z, 3, none⟩ (.int .i64 gid))) HZL.out)
              have HMC := Lib.hid (show Calls Tryz.prog 33 #[.agg #[.int .i64 c.u, .int .i64 c.g, .slice A0 m k], .int .i64 n.kind, .int .i64 n.mode] ((W7.setCell ⟨z, 2, none⟩ (.int .i64 uid)).setCell ⟨z, 3, none⟩ (.int .i64 gid)) fun e w' => e = .returned (.int .i64 M) ∧ Below (((W7.setCell ⟨z, 2, none⟩ (.int .i64 uid)).setCell ⟨z, 3, none⟩ (.int .i64 gid))).heap.size (((W7.setCell ⟨z, 2, none⟩ (.int .i64 uid)).setCell ⟨z, 3, none⟩ (.int .i64 gid))) w' from by have h1 := rwritten_any c.u c.g A0 m k n.kind n.mode (((W7.setCell ⟨z, 2, none⟩ (.int .i64 uid)).setCell ⟨z, 3, none⟩ (.int .i64 gid))); rw [HMM.out] at h1; exact h1)
              have HGW := Lib.hid (grown_trans (grown_setCell W7 ⟨z, 2, none⟩ (.int .i64 uid)) (grown_setCell _ ⟨z, 3, none⟩ (.int .i64 gid)))
              have HZB := Lib.hid (show Blk ((W7.setCell ⟨z, 2, none⟩ (.int .i64 uid)).setCell ⟨z, 3, none⟩ (.int .i64 gid)) z 61 (rfC (modN n n.mode uid gid) (.slice A1' n.ents.length k1') (.slice A2' n.ents.length k2')) from (rf_three (rf_two HZ7.out uid) gid))
              have hk := HK7.out.kept (grown_trans (grown_setCell W7 ⟨z, 2, none⟩ (.int .i64 uid)) (grown_setCell _ ⟨z, 3, none⟩ (.int .i64 gid))) (some_ne HZK.out)
              obtain ⟨l0, l1, l2⟩ := hk.c3
              obtain ⟨m0, m1, m2, m3, m4, m5, m6, m7⟩ := HZB.out.c8
              have f3' := (rf_two HZ7.out uid).frozen 3
              clear hk
              go_wp2_with fail
              clear hW7 hzz
              refine HMC.out.mono ?_
              rintro e w8 ⟨rfl, hb8⟩
              have hg8 := grown_trans HGW.out (grown_below hb8 (some z))
              have hz8 := HZB.out.below hb8
              have hg9 := grown_trans hg8 (grown_setCell w8 ⟨z, 1, none⟩ (.int .i64 M))
              have hz9 := rf_one hz8 M
              have HZ9 := Lib.hid hz9
              have HG9 := Lib.hid hg9
              have hq := HQ7.out.kept hg9 (some_ne HZQ.out)
              have hr := HR7.out.kept hg9 (some_ne HZR.out)
              have hs := HS7.out.kept hg9 (some_ne HZS.out)
              have HR9 := Lib.hid hr
              have HB9 := Lib.hid (below_grown HB7.out hg9 HZL.out)
              clear l0 l1 l2 m0 m1 m2 m3 m4 m5 m6 m7 k0 k1 k2 x0 x1 x2 x3 x4 x5 x6 t0 r0 r1 s0 z0 z1 z2 z3 z4 z5 z6 z7 f0 f1 f2 f3 f4 f5 f6 f7 f3'
              obtain ⟨y0, y1, y2, y3, y4, y5, y6, y7⟩ := hz8.c8
              obtain ⟨f0, f1, f2, f3, f4, f5, f6, f7⟩ := hz8.f8
              obtain ⟨x0, x1, x2, x3, x4, x5, x6⟩ := hs.c7
              have t0 := hq.cell 0
              simp at t0
              obtain ⟨z0, z1, z2, z3, z4, z5, z6, z7⟩ := hz9.c8
              obtain ⟨kk, hkk⟩ : ∃ kk : Nat, X.node = (kk : Int) + 1 := ⟨(X.node - 1).toNat, by have := HIN.out; omega⟩
              have HWI := Lib.hid (show Calls Tryz.prog 26 #[.agg #[.slice (some ⟨g, 0, none⟩) t.length cc], .int .i64 X.node, .agg (rfC (modN n M uid gid) (.slice A1' n.ents.length k1') (.slice A2' n.ents.length k2'))] (w8.setCell ⟨z, 1, none⟩ (.int .i64 M)) fun e w' => ∃ g' c', e = .returned (.agg #[.slice (some ⟨g', 0, none⟩) t.length c']) ∧ RcA P w CT CE (.returned (.tuple #[.agg #[.slice (some ⟨g', 0, none⟩) t.length c'], .int .i64 0])) (w'.setCell ⟨R, 0, none⟩ (.slice (some ⟨g', 0, none⟩) t.length c')) ∧ Below (w8.setCell ⟨z, 1, none⟩ (.int .i64 M)).heap.size (w8.setCell ⟨z, 1, none⟩ (.int .i64 M)) w' from by
                obtain ⟨l1, l2⟩ := lists_kept (P := fun b => P b ∧ b ≠ R) HG9.out HLS.out.1 HLS.out.2 HLP.out.1 HLP.out.2
                have hin := HIN.out
                have hsz := HG9.out.size
                have h1 := rwith_any (P := fun b => (P b ∧ b ≠ R) ∧ b ≠ z) (.slice (some ⟨g, 0, none⟩) t.length cc) t kk (modN n M uid gid) (.slice A1' n.ents.length k1') (.slice A2' n.ents.length k2') (w8.setCell ⟨z, 1, none⟩ (.int .i64 M)) (w8.setCell ⟨z, 1, none⟩ (.int .i64 M)) (HN7.out.other HG9.out (fun _ hb => hb.2)) (Below.refl _ _) HTL.out (by omega) l1 l2
                  (fun ad n' c' hv => ⟨HLP.out.1 ad n' c' hv, by have h1 := HLQ.out.1 ad n' c' hv; have h2 := HZW.out; omega⟩) (fun ad n' c' hv => ⟨HLP.out.2 ad n' c' hv, by have h1 := HLQ.out.2 ad n' c' hv; have h2 := HZW.out; omega⟩)
                rw [← hkk] at h1
                refine h1.mono ?_
                rintro e w' ⟨v', rfl, hf, hb⟩
                have hlt : R < (w8.setCell ⟨z, 1, none⟩ (.int .i64 M)).heap.size := HR9.out.lt
                have hlz : z < (w8.setCell ⟨z, 1, none⟩ (.int .i64 M)).heap.size := HZ9.out.lt
                have hlw := HB9.out.size
                have h2 := hf.ns hb (fun b hb => ⟨⟨HP.out b (by omega), by omega⟩, by omega⟩)
                obtain ⟨g', c', rfl⟩ := ns_form h2
                rw [len_setT] at h2 ⊢
                refine ⟨g', c', rfl, ⟨_, by rw [HA.out.1], ?_, below_grown (bt hb HB9.out) (grown_setCell _ _ _) HRW.out⟩, hb⟩
                rw [(HA.out.2.2 HNEG.out), show chwN c n uid gid = modN n M uid gid from by unfold chwN; rw [HMM.out, if_neg (by have := HU.out; omega), if_neg (by have := HG.out; omega)]]
                exact nsr_put (h2.mono (fun _ hb _ => hb.1)) _)
              clear hq hr hs hz8 hz9 hg8 hg9 hb8 hkk
              go_wp2_with fail
              refine HWI.out.mono ?_
              rintro e w10 ⟨g', c', rfl, hA, hb⟩
              have HAA := Lib.hid hA
              have hr := HR9.out.below hb
              have r0 := hr.cell 0
              have r1 := hr.frozen 0
              simp at r0
              have s0 : ∀ u, (w10.setCell ⟨R, 0, none⟩ u).cell? ⟨R, 0, none⟩ = some u := fun u => (hr.set_ 0 u).cell 0
              clear hA hb hr
              go_wp2
              exact bodyPost_ret (v := .tuple #[.agg #[.slice (some ⟨g', 0, none⟩) t.length c'], .int .i64 0]) (by simp [results, Tryz.results13, go_sem, s0]) rfl HAA.out
      · have qE1 : (E != 0) = true := by simpa using qE
        have HA := Lib.hid (AE.out HQ.out qE)
        clear qE
        go_wp2
        exact bodyPost_ret (v := .tuple #[.agg #[.slice (some ⟨g, 0, none⟩) t.length cc], .int .i64 E]) (by simp [results, Tryz.results13, go_sem, s0]) rfl (rca_back HN4.out HB4.out HRW.out (HA.out).1 (HA.out).2)
end Go.Proofs.YtinalglbibmmpaaGreat
