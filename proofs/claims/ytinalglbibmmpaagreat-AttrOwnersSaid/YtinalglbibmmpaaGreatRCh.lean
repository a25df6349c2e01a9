/-
  The reference's Chmod. The conditions: a tree, a short path.
-/
import Derived.Test.YtinalglbibmmpaaGreatRG
import Derived.Test.YtinalglbibmmpaaGreatCD
import Derived.Test.YtinalglbibmmpaaGreatAtT
namespace Go.Proofs.YtinalglbibmmpaaGreat
open Go Go.RowKit
set_option maxRecDepth 100000

attribute [local go_sem] cell_off4 cell_blk4
theorem nsr_put {P : Nat → Prop} {W : World} {v : Value} {t : List Nd} {R : Nat} (h : NsR (fun b => P b ∧ b ≠ R) W v t) (u : Value) : NsR P (W.setCell ⟨R, 0, none⟩ u) v t := (h.other (grown_setCell W ⟨R, 0, none⟩ u) (fun _ hb => hb.2)).mono (fun _ hb _ => hb.1)
/-- What a reference's change answers. -/
def RcA (P : Nat → Prop) (w : World) (T : List Nd) (x : Int) (e : Ending) (w' : World) : Prop := ∃ v', e = .returned (.tuple #[.agg #[v'], .int .i64 x]) ∧ NsR P w' v' T ∧ Below w.heap.size w w'
theorem rca_back {P : Nat → Prop} {w W : World} {v : Value} {t T : List Nd} {R : Nat} {x y : Int} (h : NsR (fun b => P b ∧ b ≠ R) W v t) (hb : Below w.heap.size w W) (hR : w.heap.size ≤ R) (e1 : y = x) (e2 : T = t) : RcA P w T y (.returned (.tuple #[.agg #[v], .int .i64 x])) (W.setCell ⟨R, 0, none⟩ v) := by
  subst e1 e2
  exact ⟨v, rfl, nsr_put h v, below_grown hb (grown_setCell _ _ _) hR⟩
/-- A node of the reference's, with its mode and owners changed. -/
theorem rf_one {W : World} {z : Nat} {n : Nd} {vn vk : Value} (h : Blk W z 61 (rfC n vn vk)) (m : Int) : Blk (W.setCell ⟨z, 1, none⟩ (.int .i64 m)) z 61 (rfC (modN n m n.uid n.gid) vn vk) := h.set_ 1 _
theorem rf_two {W : World} {z : Nat} {n : Nd} {vn vk : Value} (h : Blk W z 61 (rfC n vn vk)) (u : Int) : Blk (W.setCell ⟨z, 2, none⟩ (.int .i64 u)) z 61 (rfC (modN n n.mode u n.gid) vn vk) := h.set_ 2 _
theorem rf_three {W : World} {z : Nat} {n : Nd} {vn vk : Value} (h : Blk W z 61 (rfC n vn vk)) (g : Int) : Blk (W.setCell ⟨z, 3, none⟩ (.int .i64 g)) z 61 (rfC (modN n n.mode n.uid g) vn vk) := h.set_ 3 _
theorem mayM_not {c : Wh} {x : Int} (h : c.u ≠ 0) (h2 : c.u ≠ x) : mayM c x = false := by
  have h3 : x ≠ c.u := fun q => h2 q.symm
  unfold mayM
  simp [h, h3]
theorem mayM_yes {c : Wh} {x : Int} (h : c.u = 0 ∨ c.u = x) : mayM c x = true := by
  unfold mayM
  rcases h with h | h
  · simp [h]
  · simp [h]
/-- Lists that lie behind a block that is changed. -/
theorem lists_kept {P : Nat → Prop} {W W' : World} {z : Nat} {vn vk : Value} {a : List ByteArray} {b : List Int} (hg : W.grownBy W' (some z)) (h1 : StrsR W vn a) (h2 : IntsR W vk b) (h3 : LP (fun x => P x ∧ x ≠ z) vn) (h4 : LP (fun x => P x ∧ x ≠ z) vk) : StrsR W' vn a ∧ IntsR W' vk b :=
  ⟨h1.other hg (fun ad n c hv => (h3 ad n c hv).2), h2.other hg (fun ad n c hv => (h4 ad n c hv).2)⟩
set_option maxHeartbeats 8000000 in
theorem rchmod_any {P : Nat → Prop} (v : Value) (t : List Nd) (c : Wh) (A0 : Option Addr) (m k : Nat) (p : Nm) (mode : Int) (w : World) (h : NsR P w v t) (ht : Trx t) (hc : CrR w c A0 m k) (hp : p.length ≤ 1000) (hP : ∀ b, w.heap.size ≤ b → P b) :
    Calls Tryz.prog 8 #[.agg #[v], .agg #[.int .i64 c.u, .int .i64 c.g, .slice A0 m k], .string (bA p), .int .i64 mode] w (RcA P w (chmT t c p mode) (chmE t c p mode)) := by
  obtain ⟨g, cc, rfl⟩ := ns_form h
  obtain ⟨CE, hCE⟩ : ∃ CE, chmE t c p mode = CE := ⟨_, rfl⟩
  obtain ⟨CT, hCT⟩ : ∃ CT, chmT t c p mode = CT := ⟨_, rfl⟩
  obtain ⟨XE, hXE⟩ : ∃ XE, staM t c p true = XE := ⟨_, rfl⟩
  obtain ⟨X, E⟩ := XE
  have hxu : E = 0 → X.uid = (tget t X.node).uid ∧ X.gid = (tget t X.node).gid ∧ (1 ≤ X.node ∧ X.node ≤ t.length) := fun q => by
    have hz : (staM t c p true).2 = 0 := by rw [hXE]; exact q
    obtain ⟨-, d2, -, d4⟩ := staM_zero hz
    rw [hXE] at d2 d4
    have d5 : X = staT t X.node := d4
    have d6 := sta_is d2
    exact ⟨by rw [d5, d6], by rw [d5, d6], tis_in d2⟩
  have A22 := Lib.hid (show mode < 0 ∨ 4095 < mode → CE = 22 ∧ CT = t from fun q => by
    have e1 : chmE t c p mode = 22 := if_pos q
    exact ⟨by rw [← hCE, e1], by rw [← hCT]; exact chmT_err (by rw [e1]; decide)⟩)
  have AE := Lib.hid (show 0 ≤ mode ∧ mode ≤ 4095 → E ≠ 0 → CE = E ∧ CT = t from fun q r => by
    have e1 : chmE t c p mode = E := by rw [chmE_in q.1 q.2, hXE]; exact if_pos r
    exact ⟨by rw [← hCE, e1], by rw [← hCT]; exact chmT_err (by rw [e1]; exact r)⟩)
  have A1 := Lib.hid (show 0 ≤ mode ∧ mode ≤ 4095 → E = 0 → mayM c (tget t X.node).uid = false → CE = 1 ∧ CT = t from fun q r s => by
    have e1 : chmE t c p mode = 1 := by
      rw [chmE_in q.1 q.2, hXE]
      unfold chmF
      rw [if_neg (fun z => z r)]
      exact if_pos s
    exact ⟨by rw [← hCE, e1], by rw [← hCT]; exact chmT_err (by rw [e1]; decide)⟩)
  have AZ := Lib.hid (show 0 ≤ mode ∧ mode ≤ 4095 → E = 0 → mayM c (tget t X.node).uid = true → CE = 0 ∧ CT = setT t X.node (chmN c (tget t X.node) mode) from fun q r s => by
    have e1 : chmE t c p mode = 0 := by
      rw [chmE_in q.1 q.2, hXE]
      unfold chmF
      rw [if_neg (fun z => z r)]
      exact if_neg (by rw [s]; decide)
    exact ⟨by rw [← hCE, e1], by rw [← hCT, chmT_set e1, hXE]⟩)
  rw [hCE, hCT]
  clear hCE hCT
  have hb0 := ba w (.cells #[.slice (some ⟨g, 0, none⟩) t.length cc] 32)
  have hq0 := Blk.new w 32 #[.slice (some ⟨g, 0, none⟩) t.length cc]
  obtain ⟨W0, hW0⟩ : ∃ W0, w.alloc (.cells #[.slice (some ⟨g, 0, none⟩) t.length cc] 32) = W0 := ⟨_, rfl⟩
  rw [hW0] at hb0 hq0
  have hb1 := al hb0 (.cells #[.int .i64 c.u, .int .i64 c.g, .slice A0 m k] 37)
  have hq1 := hq0.below (ba W0 (.cells #[.int .i64 c.u, .int .i64 c.g, .slice A0 m k] 37))
  have hk1 := Blk.new W0 37 #[.int .i64 c.u, .int .i64 c.g, .slice A0 m k]
  obtain ⟨W1, hW1⟩ : ∃ W1, W0.alloc (.cells #[.int .i64 c.u, .int .i64 c.g, .slice A0 m k] 37) = W1 := ⟨_, rfl⟩
  rw [hW1] at hb1 hk1 hq1
  have hb2 := al hb1 (.cells #[.slice none 0 0] 32)
  have hk2 := hk1.below (ba W1 (.cells #[.slice none 0 0] 32))
  have hq2 := hq1.below (ba W1 (.cells #[.slice none 0 0] 32))
  have hr2 := Blk.new W1 32 #[.slice none 0 0]
  obtain ⟨W2, hW2⟩ : ∃ W2, W1.alloc (.cells #[.slice none 0 0] 32) = W2 := ⟨_, rfl⟩
  rw [hW2] at hb2 hk2 hr2 hq2
  obtain ⟨C0, hC0⟩ : ∃ C0, W0.heap.size = C0 := ⟨_, rfl⟩
  rw [hC0] at hk1 hk2
  obtain ⟨R, hR1⟩ : ∃ R, W1.heap.size = R := ⟨_, rfl⟩
  rw [hR1] at hr2
  have HRW := Lib.hid (show w.heap.size ≤ R by rw [← hR1]; exact hb1.size)
  have HN2 := Lib.hid (show NsR (fun b => P b ∧ b ≠ R) W2 (.slice (some ⟨g, 0, none⟩) t.length cc) t from (h.mono (fun b hb hl => ⟨hb, by have := HRW.out; omega⟩)).below hb2)
  have HRS := Lib.hid (fun (q : 0 ≤ mode ∧ mode ≤ 4095) => rstat_any (.slice (some ⟨g, 0, none⟩) t.length cc) t c A0 m k p true W2 (h.below hb2) ht (hc.below hb2) hp (X, E) hXE)
  have HXU := Lib.hid hxu
  have HTL := Lib.hid ht.le
  have HC := Lib.hid hc
  have HP := Lib.hid hP
  have HB2 := Lib.hid hb2
  have HQ2 := Lib.hid hq2
  have HR2 := Lib.hid hr2
  have HK2 := Lib.hid hk2
  obtain ⟨k0, k1, k2⟩ := hk2.c3
  have t0 := hq2.cell 0
  have r0 := hr2.cell 0
  have r1 := hr2.frozen 0
  simp at t0 r0
  have s0 : ∀ u, (W2.setCell ⟨R, 0, none⟩ u).cell? ⟨R, 0, none⟩ = some u := fun u => (hr2.set_ 0 u).cell 0
  clear h hc hb0 hb1 hb2 hr2 hk1 hk2 hq0 hq1 hq2 ht hp hP hxu hXE
  by_cases q0 : mode < 0
  · have HA := Lib.hid (A22.out (.inl q0))
    go_enter Tryz.func8, Tryz.ntmps8
    go_wp2
    exact bodyPost_ret (v := .tuple #[.agg #[.slice (some ⟨g, 0, none⟩) t.length cc], .int .i64 22]) (by simp [results, Tryz.results8, go_sem, s0]) rfl (rca_back HN2.out HB2.out HRW.out (HA.out).1 (HA.out).2)
  · by_cases q1 : mode > 4095
    · have HA := Lib.hid (A22.out (.inr q1))
      go_enter Tryz.func8, Tryz.ntmps8
      go_wp2
      exact bodyPost_ret (v := .tuple #[.agg #[.slice (some ⟨g, 0, none⟩) t.length cc], .int .i64 22]) (by simp [results, Tryz.results8, go_sem, s0]) rfl (rca_back HN2.out HB2.out HRW.out (HA.out).1 (HA.out).2)
    · have HQ := Lib.hid (show 0 ≤ mode ∧ mode ≤ 4095 from ⟨by omega, by omega⟩)
      have HST := Lib.hid (HRS.out HQ.out)
      unfold stV stC at HST
      go_enter Tryz.func8, Tryz.ntmps8
      go_wp2_with fail
      clear hW0 hW1 hW2 hR1 hC0
      refine HST.out.mono ?_
      rintro e w3 ⟨rfl, hb3⟩
      have hbx := al hb3 (.cells #[.int .i64 X.node, .int .i64 X.kind, .int .i64 X.mode, .int .i64 X.uid, .int .i64 X.gid, .int .i64 X.links, .int .i64 X.size] 47)
      have HB4 := Lib.hid (bt hbx HB2.out)
      have HN4 := Lib.hid (HN2.out.below hbx)
      have hr4 := HR2.out.below hbx
      have hq4 := HQ2.out.below hbx
      have hk4 := HK2.out.below hbx
      have hs4 := Blk.new w3 47 #[.int .i64 X.node, .int .i64 X.kind, .int .i64 X.mode, .int .i64 X.uid, .int .i64 X.gid, .int .i64 X.links, .int .i64 X.size]
      obtain ⟨y, hy⟩ : ∃ y, w3.heap.size = y := ⟨_, rfl⟩
      obtain ⟨W4, hW4⟩ : ∃ W4, w3.alloc (.cells #[.int .i64 X.node, .int .i64 X.kind, .int .i64 X.mode, .int .i64 X.uid, .int .i64 X.gid, .int .i64 X.links, .int .i64 X.size] 47) = W4 := ⟨_, rfl⟩
      rw [hW4] at HB4 HN4 hr4 hq4 hk4 hs4
      rw [hy] at hs4
      have HR4 := Lib.hid hr4
      have HQ4 := Lib.hid hq4
      have HK4 := Lib.hid hk4
      have HS4 := Lib.hid hs4
      clear hb3 hbx k0 k1 k2 t0 r0 r1 s0 HRS HST HN2 HR2 HQ2 HK2
      obtain ⟨k0, k1, k2⟩ := hk4.c3
      obtain ⟨x0, x1, x2, x3, x4, x5, x6⟩ := hs4.c7
      have t0 := hq4.cell 0
      have r0 := hr4.cell 0
      have r1 := hr4.frozen 0
      simp at t0 r0
      have s0 : ∀ u, (W4.setCell ⟨R, 0, none⟩ u).cell? ⟨R, 0, none⟩ = some u := fun u => (hr4.set_ 0 u).cell 0
      clear hr4 hq4 hk4 hs4
      by_cases qE : E = 0
      · have qE1 : (E != 0) = false := by simpa using qE
        obtain ⟨u1, u2, u3⟩ := HXU.out qE
        have HIN := Lib.hid u3
        by_cases hmq : c.u ≠ 0 ∧ c.u ≠ X.uid
        · have e1 : (c.u != 0) = true := by simpa using hmq.1
          have e2 : (c.u != X.uid) = true := by simpa using hmq.2
          have HA := Lib.hid (A1.out HQ.out qE (mayM_not hmq.1 (by rw [← u1]; exact hmq.2)))
          clear hmq u1 u2 u3
          go_wp2
          exact bodyPost_ret (v := .tuple #[.agg #[.slice (some ⟨g, 0, none⟩) t.length cc], .int .i64 1]) (by simp [results, Tryz.results8, go_sem, s0]) rfl (rca_back HN4.out HB4.out HRW.out (HA.out).1 (HA.out).2)
        · have HA := Lib.hid (AZ.out HQ.out qE (mayM_yes (by rw [← u1]; by_cases a : c.u = 0; exact .inl a; exact .inr (Classical.byContradiction fun b => hmq ⟨a, b⟩))))
          clear u3
          by_cases hc0 : c.u = 0
          · have e1 : (c.u != 0) = false := by simpa using hc0
            clear hmq u1 u2 hc0
            have HGT := Lib.hid (rgetp_any (P := fun b => P b ∧ b ≠ R) (.slice (some ⟨g, 0, none⟩) t.length cc) t X.node W4 HN4.out HIN.out HTL.out)
            generalize tget t X.node = n at HGT HA
            go_wp2_with fail
            refine HGT.out.mono ?_
            rintro e w6 ⟨vn, vk, rfl, hn6, hk6, ln6, lk6, hb⟩
            have hbx := al hb (.cells (rfC n vn vk) 61)
            have hz := Blk.new w6 61 (rfC n vn vk)
            have HZR := Lib.hid (show R ≠ w6.heap.size from Nat.ne_of_lt (HR4.out.below hb).lt)
            have HZQ := Lib.hid (show w.heap.size ≠ w6.heap.size from Nat.ne_of_lt (HQ4.out.below hb).lt)
            have HZK := Lib.hid (show C0 ≠ w6.heap.size from Nat.ne_of_lt (HK4.out.below hb).lt)
            have HZS := Lib.hid (show y ≠ w6.heap.size from Nat.ne_of_lt (HS4.out.below hb).lt)
            have HZL := Lib.hid (show w.heap.size ≤ w6.heap.size from (bt hb HB4.out).size)
            have HN7 := Lib.hid (show NsR (fun b => (P b ∧ b ≠ R) ∧ b ≠ w6.heap.size) (w6.alloc (.cells (rfC n vn vk) 61)) (.slice (some ⟨g, 0, none⟩) t.length cc) t from ((HN4.out.below hb).mono (fun _ h1 h2 => ⟨h1, Nat.ne_of_lt h2⟩)).below (ba w6 _))
            have hn7 := hn6.below (ba w6 (.cells (rfC n vn vk) 61))
            have hk7 := hk6.below (ba w6 (.cells (rfC n vn vk) 61))
            have ln7 := ln6.mono (fun b h1 => (⟨h1.1, by have := hb.size; have := h1.2; omega⟩ : (P b ∧ b ≠ R) ∧ b ≠ w6.heap.size))
            have lk7 := lk6.mono (fun b h1 => (⟨h1.1, by have := hb.size; have := h1.2; omega⟩ : (P b ∧ b ≠ R) ∧ b ≠ w6.heap.size))
            have ln8 := ln6.mono (fun b h1 => (show b < w6.heap.size from Nat.lt_of_lt_of_le h1.2 hb.size))
            have lk8 := lk6.mono (fun b h1 => (show b < w6.heap.size from Nat.lt_of_lt_of_le h1.2 hb.size))
            have hl78 := (ba w6 (.cells (rfC n vn vk) 61)).size
            obtain ⟨A1', k1', rfl⟩ := strs_form hn6 (nm_len _)
            obtain ⟨A2', k2', rfl⟩ := ints_form hk6 (idE_len _)
            have hr := HR4.out.below hbx
            have hq := HQ4.out.below hbx
            have hk := HK4.out.below hbx
            have hs := HS4.out.below hbx
            obtain ⟨z, hzz⟩ : ∃ z, w6.heap.size = z := ⟨_, rfl⟩
            obtain ⟨W7, hW7⟩ : ∃ W7, w6.alloc (.cells (rfC n (.slice A1' n.ents.length k1') (.slice A2' n.ents.length k2')) 61) = W7 := ⟨_, rfl⟩
            rw [hW7] at hbx HN7 hn7 hk7 hr hq hk hs hz hl78
            rw [hzz] at HN7 hz HZR HZQ HZK HZS HZL ln7 lk7 ln8 lk8 hl78
            have HB7 := Lib.hid (bt hbx HB4.out)
            have HR7 := Lib.hid hr
            have HQ7 := Lib.hid hq
            have HK7 := Lib.hid hk
            have HS7 := Lib.hid hs
            have HZ7 := Lib.hid hz
            have HLS := Lib.hid (show StrsR W7 (.slice A1' n.ents.length k1') (nmA (nmE n.ents)) ∧ IntsR W7 (.slice A2' n.ents.length k2') (idE n.ents) from ⟨hn7, hk7⟩)
            have HLP := Lib.hid (show LP (fun b => (P b ∧ b ≠ R) ∧ b ≠ z) (.slice A1' n.ents.length k1') ∧ LP (fun b => (P b ∧ b ≠ R) ∧ b ≠ z) (.slice A2' n.ents.length k2') from ⟨ln7, lk7⟩)
            have HLQ := Lib.hid (show LP (fun b => b < z) (.slice A1' n.ents.length k1') ∧ LP (fun b => b < z) (.slice A2' n.ents.length k2') from ⟨ln8, lk8⟩)
            have HZW := Lib.hid (show z ≤ W7.heap.size from hl78)
            clear hn6 hk6 ln6 lk6 hb hbx hn7 hk7 ln7 lk7 ln8 lk8 hl78 k0 k1 k2 x0 x1 x2 x3 x4 x5 x6 t0 r0 r1 s0
            obtain ⟨k0, k1, k2⟩ := hk.c3
            obtain ⟨x0, x1, x2, x3, x4, x5, x6⟩ := hs.c7
            obtain ⟨z0, z1, z2, z3, z4, z5, z6, z7⟩ := hz.c8
            obtain ⟨f0, f1, f2, f3, f4, f5, f6, f7⟩ := hz.f8
            have t0 := hq.cell 0
            have r0 := hr.cell 0
            have r1 := hr.frozen 0
            simp at t0 r0
            have s0 : ∀ u, (W7.setCell ⟨R, 0, none⟩ u).cell? ⟨R, 0, none⟩ = some u := fun u => (hr.set_ 0 u).cell 0
            clear hr hq hk hs hz
            obtain ⟨M, hM⟩ : ∃ M, modeM c.u c.g c.gs n.kind n.gid mode = M := ⟨_, rfl⟩
            have HMM := Lib.hid hM
            clear hM
            have HBW := Lib.hid (below_grown HB7.out (World.grownBy.refl W7 (some z)) HZL.out)
            have HMC := Lib.hid (show Calls Tryz.prog 25 #[.agg #[.int .i64 c.u, .int .i64 c.g, .slice A0 m k], .int .i64 n.kind, .int .i64 n.gid, .int .i64 mode] W7 fun e w' => e = .returned (.int .i64 M) ∧ Below W7.heap.size W7 w' from by have h1 := rmode_any c.u c.g A0 m k c.gs n.kind n.gid mode W7 (HC.out.below HB7.out).1 (by have := HC.out.2; omega); rw [HMM.out] at h1; exact h1)
            have HGW := Lib.hid (World.grownBy.refl W7 (some z))
            have HZB := Lib.hid HZ7.out
            go_wp2_with fail
            clear hW7 hzz
            refine HMC.out.mono ?_
            rintro e w8 ⟨rfl, hb8⟩
            have hg8 := grown_trans HGW.out (grown_below hb8 (some z))
            have hz8 := HZB.out.below hb8
            have hg9 := grown_trans hg8 (grown_setCell w8 ⟨z, 1, none⟩ (.int .i64 M))
            have hz9 := rf_one hz8 M
            have HZ9 := Lib.hid hz9
            have HG9 := Lib.hid hg9
            have hq := HQ7.out.kept hg9 (some_ne HZQ.out)
            have hr := HR7.out.kept hg9 (some_ne HZR.out)
            have hs := HS7.out.kept hg9 (some_ne HZS.out)
            have HR9 := Lib.hid hr
            have HB9 := Lib.hid (below_grown HB7.out hg9 HZL.out)
            clear k0 k1 k2 x0 x1 x2 x3 x4 x5 x6 t0 r0 r1 s0 z0 z1 z2 z3 z4 z5 z6 z7 f0 f1 f2 f3 f4 f5 f6 f7
            obtain ⟨y0, y1, y2, y3, y4, y5, y6, y7⟩ := hz8.c8
            obtain ⟨f0, f1, f2, f3, f4, f5, f6, f7⟩ := hz8.f8
            obtain ⟨x0, x1, x2, x3, x4, x5, x6⟩ := hs.c7
            have t0 := hq.cell 0
            simp at t0
            obtain ⟨z0, z1, z2, z3, z4, z5, z6, z7⟩ := hz9.c8
            obtain ⟨kk, hkk⟩ : ∃ kk : Nat, X.node = (kk : Int) + 1 := ⟨(X.node - 1).toNat, by have := HIN.out; omega⟩
            have HWI := Lib.hid (show Calls Tryz.prog 26 #[.agg #[.slice (some ⟨g, 0, none⟩) t.length cc], .int .i64 X.node, .agg (rfC (modN n M n.uid n.gid) (.slice A1' n.ents.length k1') (.slice A2' n.ents.length k2'))] (w8.setCell ⟨z, 1, none⟩ (.int .i64 M)) fun e w' => ∃ g' c', e = .returned (.agg #[.slice (some ⟨g', 0, none⟩) t.length c']) ∧ RcA P w CT CE (.returned (.tuple #[.agg #[.slice (some ⟨g', 0, none⟩) t.length c'], .int .i64 0])) (w'.setCell ⟨R, 0, none⟩ (.slice (some ⟨g', 0, none⟩) t.length c')) ∧ Below (w8.setCell ⟨z, 1, none⟩ (.int .i64 M)).heap.size (w8.setCell ⟨z, 1, none⟩ (.int .i64 M)) w' from by
              obtain ⟨l1, l2⟩ := lists_kept (P := fun b => P b ∧ b ≠ R) HG9.out HLS.out.1 HLS.out.2 HLP.out.1 HLP.out.2
              have hin := HIN.out
              have hsz := HG9.out.size
              have h1 := rwith_any (P := fun b => (P b ∧ b ≠ R) ∧ b ≠ z) (.slice (some ⟨g, 0, none⟩) t.length cc) t kk (modN n M n.uid n.gid) (.slice A1' n.ents.length k1') (.slice A2' n.ents.length k2') (w8.setCell ⟨z, 1, none⟩ (.int .i64 M)) (w8.setCell ⟨z, 1, none⟩ (.int .i64 M)) (HN7.out.other HG9.out (fun _ hb => hb.2)) (Below.refl _ _) HTL.out (by omega) l1 l2
                (fun ad n' c' hv => ⟨HLP.out.1 ad n' c' hv, by have h1 := HLQ.out.1 ad n' c' hv; have h2 := HZW.out; omega⟩) (fun ad n' c' hv => ⟨HLP.out.2 ad n' c' hv, by have h1 := HLQ.out.2 ad n' c' hv; have h2 := HZW.out; omega⟩)
              rw [← hkk] at h1
              refine h1.mono ?_
              rintro e w' ⟨v', rfl, hf, hb⟩
              have hlt : R < (w8.setCell ⟨z, 1, none⟩ (.int .i64 M)).heap.size := HR9.out.lt
              have hlz : z < (w8.setCell ⟨z, 1, none⟩ (.int .i64 M)).heap.size := HZ9.out.lt
              have hlw := HB9.out.size
              have h2 := hf.ns hb (fun b hb => ⟨⟨HP.out b (by omega), by omega⟩, by omega⟩)
              obtain ⟨g', c', rfl⟩ := ns_form h2
              rw [len_setT] at h2 ⊢
              refine ⟨g', c', rfl, ⟨_, by rw [HA.out.1], ?_, below_grown (bt hb HB9.out) (grown_setCell _ _ _) HRW.out⟩, hb⟩
              rw [HA.out.2, show chmN c n mode = modN n M n.uid n.gid from by unfold chmN; rw [HMM.out]]
              exact nsr_put (h2.mono (fun _ hb _ => hb.1)) _)
            clear hq hr hs hz8 hz9 hg8 hg9 hb8 hkk
            go_wp2_with fail
            refine HWI.out.mono ?_
            rintro e w10 ⟨g', c', rfl, hA, hb⟩
            have HAA := Lib.hid hA
            have hr := HR9.out.below hb
            have r0 := hr.cell 0
            have r1 := hr.frozen 0
            simp at r0
            have s0 : ∀ u, (w10.setCell ⟨R, 0, none⟩ u).cell? ⟨R, 0, none⟩ = some u := fun u => (hr.set_ 0 u).cell 0
            clear hA hb hr
            go_wp2
            exact bodyPost_ret (v := .tuple #[.agg #[.slice (some ⟨g', 0, none⟩) t.length c'], .int .i64 0]) (by simp [results, Tryz.results8, go_sem, s0]) rfl HAA.out
          · have e1 : (c.u != 0) = true := by simpa using hc0
            have e2 : (c.u != X.uid) = false := by simpa using (Classical.byContradiction fun b => hmq ⟨hc0, b⟩ : c.u = X.uid)
            clear hmq u1 u2 hc0
            have HGT := Lib.hid (rgetp_any (P := fun b => P b ∧ b ≠ R) (.slice (some ⟨g, 0, none⟩) t.length cc) t X.node W4 HN4.out HIN.out HTL.out)
            generalize tget t X.node = n at HGT HA
            go_wp2_with fail
            refine HGT.out.mono ?_
            rintro e w6 ⟨vn, vk, rfl, hn6, hk6, ln6, lk6, hb⟩
            have hbx := al hb (.cells (rfC n vn vk) 61)
            have hz := Blk.new w6 61 (rfC n vn vk)
            have HZR := Lib.hid (show R ≠ w6.heap.size from Nat.ne_of_lt (HR4.out.below hb).lt)
            have HZQ := Lib.hid (show w.heap.size ≠ w6.heap.size from Nat.ne_of_lt (HQ4.out.below hb).lt)
            have HZK := Lib.hid (show C0 ≠ w6.heap.size from Nat.ne_of_lt (HK4.out.below hb).lt)
            have HZS := Lib.hid (show y ≠ w6.heap.size from Nat.ne_of_lt (HS4.out.below hb).lt)
            have HZL := Lib.hid (show w.heap.size ≤ w6.heap.size from (bt hb HB4.out).size)
            have HN7 := Lib.hid (show NsR (fun b => (P b ∧ b ≠ R) ∧ b ≠ w6.heap.size) (w6.alloc (.cells (rfC n vn vk) 61)) (.slice (some ⟨g, 0, none⟩) t.length cc) t from ((HN4.out.below hb).mono (fun _ h1 h2 => ⟨h1, Nat.ne_of_lt h2⟩)).below (ba w6 _))
            have hn7 := hn6.below (ba w6 (.cells (rfC n vn vk) 61))
            have hk7 := hk6.below (ba w6 (.cells (rfC n vn vk) 61))
            have ln7 := ln6.mono (fun b h1 => (⟨h1.1, by have := hb.size; have := h1.2; omega⟩ : (P b ∧ b ≠ R) ∧ b ≠ w6.heap.size))
            have lk7 := lk6.mono (fun b h1 => (⟨h1.1, by have := hb.size; have := h1.2; omega⟩ : (P b ∧ b ≠ R) ∧ b ≠ w6.heap.size))
            have ln8 := ln6.mono (fun b h1 => (show b < w6.heap.size from Nat.lt_of_lt_of_le h1.2 hb.size))
            have lk8 := lk6.mono (fun b h1 => (show b < w6.heap.size from Nat.lt_of_lt_of_le h1.2 hb.size))
            have hl78 := (ba w6 (.cells (rfC n vn vk) 61)).size
            obtain ⟨A1', k1', rfl⟩ := strs_form hn6 (nm_len _)
            obtain ⟨A2', k2', rfl⟩ := ints_form hk6 (idE_len _)
            have hr := HR4.out.below hbx
            have hq := HQ4.out.below hbx
            have hk := HK4.out.below hbx
            have hs := HS4.out.below hbx
            obtain ⟨z, hzz⟩ : ∃ z, w6.heap.size = z := ⟨_, rfl⟩
            obtain ⟨W7, hW7⟩ : ∃ W7, w6.alloc (.cells (rfC n (.slice A1' n.ents.length k1') (.slice A2' n.ents.length k2')) 61) = W7 := ⟨_, rfl⟩
            rw [hW7] at hbx HN7 hn7 hk7 hr hq hk hs hz hl78
            rw [hzz] at HN7 hz HZR HZQ HZK HZS HZL ln7 lk7 ln8 lk8 hl78
            have HB7 := Lib.hid (bt hbx HB4.out)
            have HR7 := Lib.hid hr
            have HQ7 := Lib.hid hq
            have HK7 := Lib.hid hk
            have HS7 := Lib.hid hs
            have HZ7 := Lib.hid hz
            have HLS := Lib.hid (show StrsR W7 (.slice A1' n.ents.length k1') (nmA (nmE n.ents)) ∧ IntsR W7 (.slice A2' n.ents.length k2') (idE n.ents) from ⟨hn7, hk7⟩)
            have HLP := Lib.hid (show LP (fun b => (P b ∧ b ≠ R) ∧ b ≠ z) (.slice A1' n.ents.length k1') ∧ LP (fun b => (P b ∧ b ≠ R) ∧ b ≠ z) (.slice A2' n.ents.length k2') from ⟨ln7, lk7⟩)
            have HLQ := Lib.hid (show LP (fun b => b < z) (.slice A1' n.ents.length k1') ∧ LP (fun b => b < z) (.slice A2' n.ents.length k2') from ⟨ln8, lk8⟩)
            have HZW := Lib.hid (show z ≤ W7.heap.size from hl78)
            clear hn6 hk6 ln6 lk6 hb hbx hn7 hk7 ln7 lk7 ln8 lk8 hl78 k0 k1 k2 x0 x1 x2 x3 x4 x5 x6 t0 r0 r1 s0
            obtain ⟨k0, k1, k2⟩ := hk.c3
            obtain ⟨x0, x1, x2, x3, x4, x5, x6⟩ := hs.c7
            obtain ⟨z0, z1, z2, z3, z4, z5, z6, z7⟩ := hz.c8
            obtain ⟨f0, f1, f2, f3, f4, f5, f6, f7⟩ := hz.f8
            have t0 := hq.cell 0
            have r0 := hr.cell 0
            have r1 := hr.frozen 0
            simp at t0 r0
            have s0 : ∀ u, (W7.setCell ⟨R, 0, none⟩ u).cell? ⟨R, 0, none⟩ = some u := fun u => (hr.set_ 0 u).cell 0
            clear hr hq hk hs hz
            obtain ⟨M, hM⟩ : ∃ M, modeM c.u c.g c.gs n.kind n.gid mode = M := ⟨_, rfl⟩
            have HMM := Lib.hid hM
            clear hM
            have HBW := Lib.hid (below_grown HB7.out (World.grownBy.refl W7 (some z)) HZL.out)
            have HMC := Lib.hid (show Calls Tryz.prog 25 #[.agg #[.int .i64 c.u, .int .i64 c.g, .slice A0 m k], .int .i64 n.kind, .int .i64 n.gid, .int .i64 mode] W7 fun e w' => e = .returned (.int .i64 M) ∧ Below W7.heap.size W7 w' from by have h1 := rmode_any c.u c.g A0 m k c.gs n.kind n.gid mode W7 (HC.out.below HB7.out).1 (by have := HC.out.2; omega); rw [HMM.out] at h1; exact h1)
            have HGW := Lib.hid (World.grownBy.refl W7 (some z))
            have HZB := Lib.hid HZ7.out
            go_wp2_with fail
            clear hW7 hzz
            refine HMC.out.mono ?_
            rintro e w8 ⟨rfl, hb8⟩
            have hg8 := grown_trans HGW.out (grown_below hb8 (some z))
            have hz8 := HZB.out.below hb8
            have hg9 := grown_trans hg8 (grown_setCell w8 ⟨z, 1, none⟩ (.int .i64 M))
            have hz9 := rf_one hz8 M
            have HZ9 := Lib.hid hz9
            have HG9 := Lib.hid hg9
            have hq := HQ7.out.kept hg9 (some_ne HZQ.out)
            have hr := HR7.out.kept hg9 (some_ne HZR.out)
            have hs := HS7.out.kept hg9 (some_ne HZS.out)
            have HR9 := Lib.hid hr
            have HB9 := Lib.hid (below_grown HB7.out hg9 HZL.out)
            clear k0 k1 k2 x0 x1 x2 x3 x4 x5 x6 t0 r0 r1 s0 z0 z1 z2 z3 z4 z5 z6 z7 f0 f1 f2 f3 f4 f5 f6 f7
            obtain ⟨y0, y1, y2, y3, y4, y5, y6, y7⟩ := hz8.c8
            obtain ⟨f0, f1, f2, f3, f4, f5, f6, f7⟩ := hz8.f8
            obtain ⟨x0, x1, x2, x3, x4, x5, x6⟩ := hs.c7
            have t0 := hq.cell 0
            simp at t0
            obtain ⟨z0, z1, z2, z3, z4, z5, z6, z7⟩ := hz9.c8
            obtain ⟨kk, hkk⟩ : ∃ kk : Nat, X.node = (kk : Int) + 1 := ⟨(X.node - 1).toNat, by have := HIN.out; omega⟩
            have HWI := Lib.hid (show Calls Tryz.prog 26 #[.agg #[.slice (some ⟨g, 0, none⟩) t.length cc], .int .i64 X.node, .agg (rfC (modN n M n.uid n.gid) (.slice A1' n.ents.length k1') (.slice A2' n.ents.length k2'))] (w8.setCell ⟨z, 1, none⟩ (.int .i64 M)) fun e w' => ∃ g' c', e = .returned (.agg #[.slice (some ⟨g', 0, none⟩) t.length c']) ∧ RcA P w CT CE (.returned (.tuple #[.agg #[.slice (some ⟨g', 0, none⟩) t.length c'], .int .i64 0])) (w'.setCell ⟨R, 0, none⟩ (.slice (some ⟨g', 0, none⟩) t.length c')) ∧ Below (w8.setCell ⟨z, 1, none⟩ (.int .i64 M)).heap.size (w8.setCell ⟨z, 1, none⟩ (.int .i64 M)) w' from by
              obtain ⟨l1, l2⟩ := lists_kept (P := fun b => P b ∧ b ≠ R) HG9.out HLS.out.1 HLS.out.2 HLP.out.1 HLP.out.2
              have hin := HIN.out
              have hsz := HG9.out.size
              have h1 := rwith_any (P := fun b => (P b ∧ b ≠ R) ∧ b ≠ z) (.slice (some ⟨g, 0, none⟩) t.length cc) t kk (modN n M n.uid n.gid) (.slice A1' n.ents.length k1') (.slice A2' n.ents.length k2') (w8.setCell ⟨z, 1, none⟩ (.int .i64 M)) (w8.setCell ⟨z, 1, none⟩ (.int .i64 M)) (HN7.out.other HG9.out (fun _ hb => hb.2)) (Below.refl _ _) HTL.out (by omega) l1 l2
                (fun ad n' c' hv => ⟨HLP.out.1 ad n' c' hv, by have h1 := HLQ.out.1 ad n' c' hv; have h2 := HZW.out; omega⟩) (fun ad n' c' hv => ⟨HLP.out.2 ad n' c' hv, by have h1 := HLQ.out.2 ad n' c' hv; have h2 := HZW.out; omega⟩)
              rw [← hkk] at h1
              refine h1.mono ?_
              rintro e w' ⟨v', rfl, hf, hb⟩
              have hlt : R < (w8.setCell ⟨z, 1, none⟩ (.int .i64 M)).heap.size := HR9.out.lt
              have hlz : z < (w8.setCell ⟨z, 1, none⟩ (.int .i64 M)).heap.size := HZ9.out.lt
              have hlw := HB9.out.size
              have h2 := hf.ns hb (fun b hb => ⟨⟨HP.out b (by omega), by omega⟩, by omega⟩)
              obtain ⟨g', c', rfl⟩ := ns_form h2
              rw [len_setT] at h2 ⊢
              refine ⟨g', c', rfl, ⟨_, by rw [HA.out.1], ?_, below_grown (bt hb HB9.out) (grown_setCell _ _ _) HRW.out⟩, hb⟩
              rw [HA.out.2, show chmN c n mode = modN n M n.uid n.gid from by unfold chmN; rw [HMM.out]]
              exact nsr_put (h2.mono (fun _ hb _ => hb.1)) _)
            clear hq hr hs hz8 hz9 hg8 hg9 hb8 hkk
            go_wp2_with fail
            refine HWI.out.mono ?_
            rintro e w10 ⟨g', c', rfl, hA, hb⟩
            have HAA := Lib.hid hA
            have hr := HR9.out.below hb
            have r0 := hr.cell 0
            have r1 := hr.frozen 0
            simp at r0
            have s0 : ∀ u, (w10.setCell ⟨R, 0, none⟩ u).cell? ⟨R, 0, none⟩ = some u := fun u => (hr.set_ 0 u).cell 0
            clear hA hb hr
            go_wp2
            exact bodyPost_ret (v := .tuple #[.agg #[.slice (some ⟨g', 0, none⟩) t.length c'], .int .i64 0]) (by simp [results, Tryz.results8, go_sem, s0]) rfl HAA.out
      · have qE1 : (E != 0) = true := by simpa using qE
        have HA := Lib.hid (AE.out HQ.out qE)
        clear qE
        go_wp2
        exact bodyPost_ret (v := .tuple #[.agg #[.slice (some ⟨g, 0, none⟩) t.length cc], .int .i64 E]) (by simp [results, Tryz.results8, go_sem, s0]) rfl (rca_back HN4.out HB4.out HRW.out (HA.out).1 (HA.out).2)
end Go.Proofs.YtinalglbibmmpaaGreat
