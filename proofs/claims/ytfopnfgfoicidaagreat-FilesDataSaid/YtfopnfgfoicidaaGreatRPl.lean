/-
  The reference's plant. The conditions are said at each.
-/
import Derived.Test.YtfopnfgfoicidaaGreatRG
import Derived.Test.YtfopnfgfoicidaaGreatWR
import Derived.Test.YtfopnfgfoicidaaGreatPlP
import Derived.Test.YtfopnfgfoicidaaGreatMsk
import Derived.Deep.RegionWith
import Derived.Deep.DeepCutAuto
import Derived.Deep.RegionHeld3
namespace Go.Proofs.YtfopnfgfoicidaaGreat
open Go Go.RowKit
set_option maxRecDepth 100000

attribute [local go_sem] cell_off4 cell_blk4
/-- What a reference's making answers. -/
def PlA (P : Nat → Prop) (w : World) (T : List Nd) (i x : Int) (e : Ending) (w' : World) : Prop := ∃ v', e = .returned (.tuple #[.agg #[v'], .int .i64 i, .int .i64 x]) ∧ NsR P w' v' T ∧ Below w.heap.size w w'
theorem nsr_out {P Q : Nat → Prop} {W : World} {v : Value} {t : List Nd} {R : Nat} (h : NsR Q W v t) (u : Value) (hq : ∀ b, Q b → P b ∧ b ≠ R) : NsR P (W.setCell ⟨R, 0, none⟩ u) v t := (h.other (grown_setCell W ⟨R, 0, none⟩ u) (fun b hb => (hq b hb).2)).mono (fun b hb _ => (hq b hb).1)
theorem pla_back {P Q : Nat → Prop} {w W : World} {v : Value} {t T : List Nd} {R : Nat} {i j x y : Int} (h : NsR Q W v t) (hq : ∀ b, Q b → P b ∧ b ≠ R) (hb : Below w.heap.size w W) (hR : w.heap.size ≤ R) (e1 : y = x) (e2 : T = t) (e3 : j = i) : PlA P w T j y (.returned (.tuple #[.agg #[v], .int .i64 i, .int .i64 x])) (W.setCell ⟨R, 0, none⟩ v) := by
  subst e1 e2 e3
  exact ⟨v, rfl, nsr_out h v hq, below_grown hb (grown_setCell _ _ _) hR⟩
/-- A node of the reference's, with an owner and a mode of its own. -/
theorem pf_one {W : World} {z : Nat} {n : Nd} {vn vk : Value} (h : Blk W z 82 (rfC n vn vk)) (m : Int) : Blk (W.setCell ⟨z, 1, none⟩ (.int .i64 m)) z 82 (rfC { n with mode := m } vn vk) := h.set_ 1 _
theorem pf_two {W : World} {z : Nat} {n : Nd} {vn vk : Value} (h : Blk W z 82 (rfC n vn vk)) (u : Int) : Blk (W.setCell ⟨z, 2, none⟩ (.int .i64 u)) z 82 (rfC { n with uid := u } vn vk) := h.set_ 2 _
theorem pf_three {W : World} {z : Nat} {n : Nd} {vn vk : Value} (h : Blk W z 82 (rfC n vn vk)) (g : Int) : Blk (W.setCell ⟨z, 3, none⟩ (.int .i64 g)) z 82 (rfC { n with gid := g } vn vk) := h.set_ 3 _
set_option maxHeartbeats 16000000 in
theorem rplant_any {P : Nat → Prop} (v : Value) (t : List Nd) (c : Wh) (A0 : Option Addr) (m0 k0 : Nat) (F : Fo) (k m : Int) (tg : Nm) (w : World) (h : NsR P w v t) (ht : Trx t) (hc : CrR w c A0 m0 k0) (hF : F.node = 0 → (tget t F.dir).kind = 2 ∧ nok F.name = true ∧ ¬ F.name ∈ nmE (tget t F.dir).ents) (hk : 1 ≤ k ∧ k ≤ 3) (hm : 0 ≤ m ∧ m ≤ 4095) (htl : tg.length ≤ 1000) (hP : ∀ b, w.heap.size ≤ b → P b) :
    Calls Tryz.prog 59 #[.agg #[v], .agg #[.int .i64 c.u, .int .i64 c.g, .slice A0 m0 k0], .agg #[.int .i64 F.dir, .string (bA F.name), .int .i64 F.node], .agg (rfC (⟨k, m, 0, 0, [], [], tg⟩ : Nd) (.slice none 0 0) (.slice none 0 0))] w (PlA P w (plT t c (F, 0) k m tg) (plI t c (F, 0) k m tg) (plE t c (F, 0) k m tg)) := by
  obtain ⟨g, cc, rfl⟩ := ns_form h
  have hk4 : k ≠ 4 := by omega
  have hpe : plE t c (F, 0) k m tg ≠ 0 → plT t c (F, 0) k m tg = t ∧ plI t c (F, 0) k m tg = 0 := pl_err
  obtain ⟨N2, hN2⟩ : ∃ N2, (plR t c F k m tg).nd = N2 := ⟨_, rfl⟩
  have hNF : Few N2 := by rw [← hN2]; exact ⟨Nat.zero_le _, Nat.zero_le _, fun e he => (by cases he), htl⟩
  have HN2E := Lib.hid (show N2 = ⟨k, if sgB (tget t F.dir) = true ∧ k = 2 then m + 1024 else m, c.u, if sgB (tget t F.dir) = true then (tget t F.dir).gid else c.g, [], [], tg⟩ from hN2.symm)
  have A17 := Lib.hid (show F.node ≠ 0 → plE t c (F, 0) k m tg = 17 ∧ plT t c (F, 0) k m tg = t ∧ plI t c (F, 0) k m tg = 0 from fun q => ⟨pl_w17 q, hpe (by rw [pl_w17 q]; decide)⟩)
  have A13 := Lib.hid (show F.node = 0 → canT t c F.dir 3 = false → plE t c (F, 0) k m tg = 13 ∧ plT t c (F, 0) k m tg = t ∧ plI t c (F, 0) k m tg = 0 from fun q r => ⟨pl_w13 q r, hpe (by rw [pl_w13 q r]; decide)⟩)
  have A28 := Lib.hid (show F.node = 0 → canT t c F.dir 3 = true → (8 ≤ (tget t F.dir).ents.length ∨ usedT t = t.length) → plE t c (F, 0) k m tg = 28 ∧ plT t c (F, 0) k m tg = t ∧ plI t c (F, 0) k m tg = 0 from fun q r s => ⟨pl_w28 q r s, hpe (by rw [pl_w28 q r s]; decide)⟩)
  have A22 := Lib.hid (show F.node = 0 → canT t c F.dir 3 = true → ¬ (8 ≤ (tget t F.dir).ents.length ∨ usedT t = t.length) → ¬ rightP N2 → plE t c (F, 0) k m tg = 22 ∧ plT t c (F, 0) k m tg = t ∧ plI t c (F, 0) k m tg = 0 from fun q r s z => by
    have e : plE t c (F, 0) k m tg = 22 := by rw [pl_wr q r s, hN2, toB_false z, if_pos rfl]
    exact ⟨e, hpe (by rw [e]; decide)⟩)
  have A0' := Lib.hid (show F.node = 0 → canT t c F.dir 3 = true → ¬ (8 ≤ (tget t F.dir).ents.length ∨ usedT t = t.length) → rightP N2 → plE t c (F, 0) k m tg = 0 ∧ plT t c (F, 0) k m tg = setT (setT t (freeT t 0) N2) F.dir (withM (tget t F.dir) F.name (freeT t 0)) ∧ plI t c (F, 0) k m tg = freeT t 0 ∧ withE (tget t F.dir) F.name (freeT t 0) = 0 ∧ freeT t 0 ≠ 0 from fun q r s z => by
    have e := pl_w0 hk4 q r s (hF q).1 (hF q).2.1 (hF q).2.2 (by rw [hN2]; exact z)
    rw [hN2] at e
    exact e)
  have HNF := Lib.hid hNF
  generalize plE t c (F, 0) k m tg = CE at A17 A13 A28 A22 A0' ⊢
  generalize plT t c (F, 0) k m tg = CT at A17 A13 A28 A22 A0' ⊢
  generalize plI t c (F, 0) k m tg = CI at A17 A13 A28 A22 A0' ⊢
  have HNL := Lib.hid (show F.node = 0 → F.name.length ≤ 1000 from fun q => by have h1 := (nok_nok (hF q).2.1).len; omega)
  clear hpe hN2 hNF hF
  have hb0 := ba w (.cells #[.slice (some ⟨g, 0, none⟩) t.length cc] 32)
  have hT0 := Blk.new w 32 #[.slice (some ⟨g, 0, none⟩) t.length cc]
  obtain ⟨W0, hW0⟩ : ∃ W0, w.alloc (.cells #[.slice (some ⟨g, 0, none⟩) t.length cc] 32) = W0 := ⟨_, rfl⟩
  rw [hW0] at hb0 hT0
  have hb1 := al hb0 (.cells #[.int .i64 c.u, .int .i64 c.g, .slice A0 m0 k0] 37)
  have hT1 := hT0.below (ba W0 (.cells #[.int .i64 c.u, .int .i64 c.g, .slice A0 m0 k0] 37))
  have hC1 := Blk.new W0 37 #[.int .i64 c.u, .int .i64 c.g, .slice A0 m0 k0]
  obtain ⟨W1, hW1⟩ : ∃ W1, W0.alloc (.cells #[.int .i64 c.u, .int .i64 c.g, .slice A0 m0 k0] 37) = W1 := ⟨_, rfl⟩
  rw [hW1] at hb1 hT1 hC1
  obtain ⟨bC, hs1⟩ : ∃ bC, W0.heap.size = bC := ⟨_, rfl⟩
  rw [hs1] at hC1
  have hb2 := al hb1 (.cells #[.int .i64 F.dir, .string (bA F.name), .int .i64 F.node] 76)
  have hT2 := hT1.below (ba W1 (.cells #[.int .i64 F.dir, .string (bA F.name), .int .i64 F.node] 76))
  have hC2 := hC1.below (ba W1 (.cells #[.int .i64 F.dir, .string (bA F.name), .int .i64 F.node] 76))
  have hF2 := Blk.new W1 76 #[.int .i64 F.dir, .string (bA F.name), .int .i64 F.node]
  obtain ⟨W2, hW2⟩ : ∃ W2, W1.alloc (.cells #[.int .i64 F.dir, .string (bA F.name), .int .i64 F.node] 76) = W2 := ⟨_, rfl⟩
  rw [hW2] at hb2 hT2 hC2 hF2
  obtain ⟨bF, hs2⟩ : ∃ bF, W1.heap.size = bF := ⟨_, rfl⟩
  rw [hs2] at hF2
  have hb3 := al hb2 (.cells (rfC (⟨k, m, 0, 0, [], [], tg⟩ : Nd) (.slice none 0 0) (.slice none 0 0)) 82)
  have hT3 := hT2.below (ba W2 (.cells (rfC (⟨k, m, 0, 0, [], [], tg⟩ : Nd) (.slice none 0 0) (.slice none 0 0)) 82))
  have hC3 := hC2.below (ba W2 (.cells (rfC (⟨k, m, 0, 0, [], [], tg⟩ : Nd) (.slice none 0 0) (.slice none 0 0)) 82))
  have hF3 := hF2.below (ba W2 (.cells (rfC (⟨k, m, 0, 0, [], [], tg⟩ : Nd) (.slice none 0 0) (.slice none 0 0)) 82))
  have hN3 := Blk.new W2 82 (rfC (⟨k, m, 0, 0, [], [], tg⟩ : Nd) (.slice none 0 0) (.slice none 0 0))
  obtain ⟨W3, hW3⟩ : ∃ W3, W2.alloc (.cells (rfC (⟨k, m, 0, 0, [], [], tg⟩ : Nd) (.slice none 0 0) (.slice none 0 0)) 82) = W3 := ⟨_, rfl⟩
  rw [hW3] at hb3 hT3 hC3 hF3 hN3
  obtain ⟨zn, hs3⟩ : ∃ zn, W2.heap.size = zn := ⟨_, rfl⟩
  rw [hs3] at hN3
  have hb4 := al hb3 (.cells #[.slice none 0 0] 32)
  have hT4 := hT3.below (ba W3 (.cells #[.slice none 0 0] 32))
  have hC4 := hC3.below (ba W3 (.cells #[.slice none 0 0] 32))
  have hF4 := hF3.below (ba W3 (.cells #[.slice none 0 0] 32))
  have hN4 := hN3.below (ba W3 (.cells #[.slice none 0 0] 32))
  have hR4 := Blk.new W3 32 #[.slice none 0 0]
  obtain ⟨W4, hW4⟩ : ∃ W4, W3.alloc (.cells #[.slice none 0 0] 32) = W4 := ⟨_, rfl⟩
  rw [hW4] at hb4 hT4 hC4 hF4 hN4 hR4
  obtain ⟨R, hs4⟩ : ∃ R, W3.heap.size = R := ⟨_, rfl⟩
  rw [hs4] at hR4
  have HRW := Lib.hid (show w.heap.size ≤ R by rw [← hs4]; exact hb3.size)
  have HZW := Lib.hid (show w.heap.size ≤ zn by rw [← hs3]; exact hb2.size)
  have HZR := Lib.hid (show R ≠ zn by have h1 := hN3.lt; rw [← hs4]; omega)
  have HQL := Lib.hid (show w.heap.size < W0.heap.size from hT0.lt)
  have HN4 := Lib.hid (show NsR (fun b => P b ∧ b ≠ R ∧ b ≠ zn) W4 (.slice (some ⟨g, 0, none⟩) t.length cc) t from (h.mono (fun b hb hl => ⟨hb, by have := HRW.out; omega, by have := HZW.out; omega⟩)).below hb4)
  have HZC := Lib.hid (show bC ≠ zn by have h1 := hC2.lt; rw [← hs3]; omega)
  have HZF := Lib.hid (show bF ≠ zn by have h1 := hF2.lt; rw [← hs3]; omega)
  have HZT := Lib.hid (show w.heap.size ≠ zn by have h1 := hT2.lt; rw [← hs3]; omega)
  have HTL := Lib.hid ht.le
  have HOK := Lib.hid ht.ok
  have HC := Lib.hid hc
  have HP := Lib.hid hP
  have HKM := Lib.hid (And.intro hk hm)
  have HB4 := Lib.hid hb4
  have HT4 := Lib.hid hT4
  have HC4 := Lib.hid hC4
  have HF4 := Lib.hid hF4
  have HX4 := Lib.hid hN4
  have HR4 := Lib.hid hR4
  have HCA := Lib.hid (fun (W : World) (hb : Below W4.heap.size W4 W) => rrcan_any (.slice (some ⟨g, 0, none⟩) t.length cc) t c A0 m0 k0 F.dir 3 W (HN4.out.below hb) HTL.out (HC.out.below (bt hb HB4.out)))
  have t0 := HT4.out.cell 0
  obtain ⟨k0', k1, k2⟩ := HC4.out.c3
  obtain ⟨f0, f1, f2⟩ := HF4.out.c3
  have r0 := HR4.out.cell 0
  have r1 := HR4.out.frozen 0
  simp at t0 r0
  have s0 : ∀ u, (W4.setCell ⟨R, 0, none⟩ u).cell? ⟨R, 0, none⟩ = some u := fun u => (HR4.out.set_ 0 u).cell 0
  clear h hc hP hk hm ht hb0 hb1 hb2 hb3 hb4 hT0 hT1 hT2 hT3 hT4 hC1 hC2 hC3 hC4 hF2 hF3 hF4 hN3 hN4 hR4
  by_cases q0 : F.node = 0
  · have q0' : (F.node != 0) = false := by simpa using q0
    obtain ⟨cq, hcq⟩ : ∃ cq, canT t c F.dir 3 = cq := ⟨_, rfl⟩
    rw [hcq] at HCA
    have HCQ := Lib.hid hcq
    have HQ0 := Lib.hid q0
    clear q0 hcq A17
    go_enter Tryz.func59, Tryz.ntmps59
    go_wp2_with fail
    clear hW0 hW1 hW2 hW3 hW4 hs1 hs2 hs3 hs4
    refine (HCA.out W4 (Below.refl _ _)).mono ?_
    rintro e w5 ⟨rfl, hb5⟩
    have HB5 := Lib.hid (bt hb5 HB4.out)
    have HN5 := Lib.hid (HN4.out.below hb5)
    have HT5 := Lib.hid (HT4.out.below hb5)
    have HC5 := Lib.hid (HC4.out.below hb5)
    have HF5 := Lib.hid (HF4.out.below hb5)
    have HX5 := Lib.hid (HX4.out.below hb5)
    have HR5 := Lib.hid (HR4.out.below hb5)
    clear hb5 k0' k1 k2 f0 f1 f2 t0 r0 r1 s0 HB4 HN4 HT4 HC4 HF4 HX4 HR4 HCA
    have t0 := HT5.out.cell 0
    obtain ⟨k0', k1, k2⟩ := HC5.out.c3
    obtain ⟨f0, f1, f2⟩ := HF5.out.c3
    have r0 := HR5.out.cell 0
    have r1 := HR5.out.frozen 0
    simp at t0 r0
    have s0 : ∀ u, (w5.setCell ⟨R, 0, none⟩ u).cell? ⟨R, 0, none⟩ = some u := fun u => (HR5.out.set_ 0 u).cell 0
    cases cq with
    | false =>
      have HA := Lib.hid (A13.out HQ0.out HCQ.out)
      go_wp2
      exact bodyPost_ret (v := .tuple #[.agg #[.slice (some ⟨g, 0, none⟩) t.length cc], .int .i64 0, .int .i64 13]) (by simp [results, Tryz.results59, go_sem, s0]) rfl (pla_back HN5.out (fun b hb => ⟨hb.1, hb.2.1⟩) HB5.out HRW.out (HA.out).1 (HA.out).2.1 (HA.out).2.2)
    | true =>
      have HTI := Lib.hid (show tis t F.dir = true from by have h := HCQ.out; unfold canT at h; simp only [Bool.and_eq_true] at h; exact h.1)
      have HIN := Lib.hid (tis_in HTI.out)
      have HGT := Lib.hid (rgetp_any (P := fun b => P b ∧ b ≠ R ∧ b ≠ zn) (.slice (some ⟨g, 0, none⟩) t.length cc) t F.dir w5 HN5.out HIN.out HTL.out)
      have HDR := Lib.hid (tis_right HOK.out HTI.out)
      have HDF := Lib.hid (ok_few HOK.out F.dir)
      clear A13
      generalize tget t F.dir = d at HGT HDR HDF A28 A22 A0' HN2E
      go_wp2_with fail
      refine HGT.out.mono ?_
      rintro e w6 ⟨vn, vk, rfl, hn6, hk6, ln6, lk6, hb⟩
      have hbx := al hb (.cells (rfC d vn vk) 82)
      have hz := Blk.new w6 82 (rfC d vn vk)
      have HZD1 := Lib.hid (show R ≠ w6.heap.size from Nat.ne_of_lt (HR5.out.below hb).lt)
      have HZD2 := Lib.hid (show w.heap.size ≠ w6.heap.size from Nat.ne_of_lt (HT5.out.below hb).lt)
      have HZD3 := Lib.hid (show bC ≠ w6.heap.size from Nat.ne_of_lt (HC5.out.below hb).lt)
      have HZD4 := Lib.hid (show bF ≠ w6.heap.size from Nat.ne_of_lt (HF5.out.below hb).lt)
      have HZD5 := Lib.hid (show zn ≠ w6.heap.size from Nat.ne_of_lt (HX5.out.below hb).lt)
      have HZL := Lib.hid (show w.heap.size ≤ w6.heap.size from (bt hb HB5.out).size)
      have HN7 := Lib.hid (show NsR (fun b => P b ∧ b ≠ R ∧ b ≠ zn ∧ b ≠ w6.heap.size) (w6.alloc (.cells (rfC d vn vk) 82)) (.slice (some ⟨g, 0, none⟩) t.length cc) t from ((HN5.out.below hb).mono (fun _ h1 h2 => ⟨h1.1, h1.2.1, h1.2.2, Nat.ne_of_lt h2⟩)).below (ba w6 _))
      have hn7 := hn6.below (ba w6 (.cells (rfC d vn vk) 82))
      have hk7 := hk6.below (ba w6 (.cells (rfC d vn vk) 82))
      have ln7 := ln6.mono (fun b h1 => (⟨h1.1.2.2, by have := hb.size; have := h1.2; omega⟩ : b ≠ zn ∧ b < w6.heap.size))
      have lk7 := lk6.mono (fun b h1 => (⟨h1.1.2.2, by have := hb.size; have := h1.2; omega⟩ : b ≠ zn ∧ b < w6.heap.size))
      obtain ⟨A1', k1', rfl⟩ := strs_form hn6 (nm_len _)
      obtain ⟨A2', k2', rfl⟩ := ints_form hk6 (idE_len _)
      obtain ⟨zd, hzz⟩ : ∃ zd, w6.heap.size = zd := ⟨_, rfl⟩
      obtain ⟨W7, hW7⟩ : ∃ W7, w6.alloc (.cells (rfC d (.slice A1' d.ents.length k1') (.slice A2' d.ents.length k2')) 82) = W7 := ⟨_, rfl⟩
      rw [hW7] at hbx HN7 hn7 hk7 hz
      rw [hzz] at HN7 hz HZD1 HZD2 HZD3 HZD4 HZD5 HZL ln7 lk7
      have HB7 := Lib.hid (bt hbx HB5.out)
      have HT7 := Lib.hid (HT5.out.below hbx)
      have HC7 := Lib.hid (HC5.out.below hbx)
      have HF7 := Lib.hid (HF5.out.below hbx)
      have HX7 := Lib.hid (HX5.out.below hbx)
      have HR7 := Lib.hid (HR5.out.below hbx)
      have HD7 := Lib.hid hz
      have HLS := Lib.hid (show StrsR W7 (.slice A1' d.ents.length k1') (nmA (nmE d.ents)) ∧ IntsR W7 (.slice A2' d.ents.length k2') (idE d.ents) from ⟨hn7, hk7⟩)
      have HLP := Lib.hid (show LP (fun b => b ≠ zn ∧ b < zd) (.slice A1' d.ents.length k1') ∧ LP (fun b => b ≠ zn ∧ b < zd) (.slice A2' d.ents.length k2') from ⟨ln7, lk7⟩)
      have HUS := Lib.hid (fun (W : World) (hb : Below W7.heap.size W7 W) => rused_any (.slice (some ⟨g, 0, none⟩) t.length cc) t W (HN7.out.below hb) HTL.out)
      clear hn6 hk6 ln6 lk6 hb hbx hn7 hk7 ln7 lk7 hz k0' k1 k2 f0 f1 f2 t0 r0 r1 s0 HB5 HN5 HT5 HC5 HF5 HX5 HR5 HGT
      obtain ⟨z0, z1, z2, z3, z4, z5, z6, z7⟩ := HD7.out.c8
      have t0 := HT7.out.cell 0
      obtain ⟨k0', k1, k2⟩ := HC7.out.c3
      obtain ⟨f0, f1, f2⟩ := HF7.out.c3
      have r0 := HR7.out.cell 0
      have r1 := HR7.out.frozen 0
      simp at t0 r0
      have s0 : ∀ u, (W7.setCell ⟨R, 0, none⟩ u).cell? ⟨R, 0, none⟩ = some u := fun u => (HR7.out.set_ 0 u).cell 0
      by_cases q8 : 8 ≤ d.ents.length
      · have q8' : (d.ents.length : Int) ≥ 8 := by omega
        have HA := Lib.hid (A28.out HQ0.out HCQ.out (.inl q8))
        clear q8
        go_upto_region 7 with fail
        clear hW7 hzz
        go_cut [43] (fun s43 wx => s43 = .bool true ∧ Below W7.heap.size W7 wx)
        case first =>
          go_quiet (fail)
          go_wp2
          go_meet
          exact ⟨rfl, bdN (Below.refl _ _) _⟩
        case rest =>
          obtain ⟨rfl, hb8⟩ := hcut
          obtain ⟨w8, hw8⟩ : ∃ W, wc = W := ⟨_, rfl⟩
          rw [hw8] at hb8 ⊢
          have HB8 := Lib.hid (bt hb8 HB7.out)
          have HN8 := Lib.hid (HN7.out.below hb8)
          have HT8 := Lib.hid (HT7.out.below hb8)
          have HC8 := Lib.hid (HC7.out.below hb8)
          have HF8 := Lib.hid (HF7.out.below hb8)
          have HR8 := Lib.hid (HR7.out.below hb8)
          clear k0' k1 k2 f0 f1 f2 t0 r0 r1 s0 z0 z1 z2 z3 z4 z5 z6 z7 hb8 hw8
          have t0 := HT8.out.cell 0
          obtain ⟨k0', k1, k2⟩ := HC8.out.c3
          obtain ⟨f0, f1, f2⟩ := HF8.out.c3
          have r0 := HR8.out.cell 0
          have r1 := HR8.out.frozen 0
          simp at t0 r0
          have s0 : ∀ u, (w8.setCell ⟨R, 0, none⟩ u).cell? ⟨R, 0, none⟩ = some u := fun u => (HR8.out.set_ 0 u).cell 0
          go_wp2
          exact bodyPost_ret (v := .tuple #[.agg #[.slice (some ⟨g, 0, none⟩) t.length cc], .int .i64 0, .int .i64 28]) (by simp [results, Tryz.results59, go_sem, s0]) rfl (pla_back HN8.out (fun b hb => ⟨hb.1, hb.2.1⟩) HB8.out HRW.out (HA.out).1 (HA.out).2.1 (HA.out).2.2)
      · have q8' : ¬ (d.ents.length : Int) ≥ 8 := by omega
        obtain ⟨us, hus⟩ : ∃ us, usedT t = us := ⟨_, rfl⟩
        obtain ⟨uq, huq⟩ : ∃ uq, ((us : Int) == (t.length : Int)) = uq := ⟨_, rfl⟩
        rw [hus] at HUS A28 A22 A0'
        have HUQ := Lib.hid (show uq = true ↔ us = t.length from by rw [← huq]; simp; omega)
        have HPQ := Lib.hid (fun (W : World) (hb : Below W7.heap.size W7 W) => show W.cell? ⟨zd, 5, none⟩ = some (.slice A1' d.ents.length k1') ∧ W.cell? ⟨w.heap.size, 0, none⟩ = some (.slice (some ⟨g, 0, none⟩) t.length cc) from ⟨(HD7.out.below hb).cell 5, (HT7.out.below hb).cell 0⟩)
        have HQ8 := Lib.hid q8
        have q8b : decide ((8 : Int) ≤ (d.ents.length : Int)) = false := by simp; omega
        have q8c : decide (8 ≤ d.ents.length) = false := by simpa using q8
        clear q8 hus
        have HJD := Lib.hid (show Below W7.heap.size W7 W7.drew from (Below.refl _ _).drew)
        go_upto_region 7 with fail
        clear hW7 hzz
        go_cut [43] (fun s43 wx => s43 = .bool uq ∧ Below W7.heap.size W7 wx)
        case first =>
          go_region_held3 (fun W => W.cell? ⟨zd, 5, none⟩ = some (.slice A1' d.ents.length k1') ∧ W.cell? ⟨w.heap.size, 0, none⟩ = some (.slice (some ⟨g, 0, none⟩) t.length cc))
            (first | (with_reducible exact HPQ.out _ HJD.out) | (with_reducible exact HPQ.out _ J1.out))
            (first | (go_at_call 85; (with_reducible refine (HUS.out _ HJD.out).mono ?_); rintro e1 x1 ⟨rfl, h1⟩; have J1 := Lib.hid (bt h1 HJD.out); clear h1))
          all_goals (
            go_wp2
            go_meet
            exact ⟨by first | rfl | (simp [huq]) | (rw [huq]), J1.out⟩)
        case rest =>
          obtain ⟨rfl, hb8⟩ := hcut
          obtain ⟨w8, hw8⟩ : ∃ W, wc = W := ⟨_, rfl⟩
          rw [hw8] at hb8 ⊢
          have HB8 := Lib.hid (bt hb8 HB7.out)
          have HN8 := Lib.hid (HN7.out.below hb8)
          have HT8 := Lib.hid (HT7.out.below hb8)
          have HC8 := Lib.hid (HC7.out.below hb8)
          have HF8 := Lib.hid (HF7.out.below hb8)
          have HX8 := Lib.hid (HX7.out.below hb8)
          have HD8 := Lib.hid (HD7.out.below hb8)
          have HR8 := Lib.hid (HR7.out.below hb8)
          have HLS8 := Lib.hid (And.intro (HLS.out.1.below hb8) (HLS.out.2.below hb8))
          clear k0' k1 k2 f0 f1 f2 t0 r0 r1 s0 z0 z1 z2 z3 z4 z5 z6 z7 hb8 hw8 HPQ HUS HJD HB7 HN7 HT7 HC7 HF7 HX7 HD7 HR7 HLS huq
          have t0 := HT8.out.cell 0
          obtain ⟨k0', k1, k2⟩ := HC8.out.c3
          obtain ⟨f0, f1, f2⟩ := HF8.out.c3
          have r0 := HR8.out.cell 0
          have r1 := HR8.out.frozen 0
          simp at t0 r0
          have s0 : ∀ u, (w8.setCell ⟨R, 0, none⟩ u).cell? ⟨R, 0, none⟩ = some u := fun u => (HR8.out.set_ 0 u).cell 0
          cases uq with
          | true =>
            have HA := Lib.hid (A28.out HQ0.out HCQ.out (.inr (HUQ.out.1 rfl)))
            go_wp2
            exact bodyPost_ret (v := .tuple #[.agg #[.slice (some ⟨g, 0, none⟩) t.length cc], .int .i64 0, .int .i64 28]) (by simp [results, Tryz.results59, go_sem, s0]) rfl (pla_back HN8.out (fun b hb => ⟨hb.1, hb.2.1⟩) HB8.out HRW.out (HA.out).1 (HA.out).2.1 (HA.out).2.2)
          | false =>
            have HFU := Lib.hid (show ¬ (8 ≤ d.ents.length ∨ us = t.length) from fun q => q.elim HQ8.out (fun q => by have := HUQ.out.2 q; cases this))
            have HA22 := Lib.hid (A22.out HQ0.out HCQ.out HFU.out)
            have HA0 := Lib.hid (A0'.out HQ0.out HCQ.out HFU.out)
            have hx9 := pf_three (pf_two HX8.out c.u) c.g
            have hg9 := grown_trans (grown_setCell w8 ⟨zn, 2, none⟩ (.int .i64 c.u)) (grown_setCell (w8.setCell ⟨zn, 2, none⟩ (.int .i64 c.u)) ⟨zn, 3, none⟩ (.int .i64 c.g))
            have HX9 := Lib.hid hx9
            have HG9 := Lib.hid hg9
            have HZ5 := Lib.hid (show zd ≠ zn from fun q => HZD5.out q.symm)
            have hd9 := HD8.out.kept hg9 (some_ne HZ5.out)
            have HDM := Lib.hid HDR.out.1.1
            obtain ⟨M, hM⟩ : ∃ M : Nat, d.mode = (M : Int) := ⟨d.mode.toNat, by have := HDM.out; omega⟩
            have hMB : M ≤ 4095 := by have := HDM.out; omega
            obtain ⟨sg, hsg⟩ : ∃ sg, M.testBit 10 = sg := ⟨_, rfl⟩
            have hSG : sgB d = sg := by unfold sgB; rw [hM, ← hsg]; rfl
            have HBI := Lib.hid (fun (W : World) => show Calls Tryz.prog 55 #[.int .i64 (M : Int), .int .i64 10] W fun e w' => e = .returned (.bool sg) ∧ W = w' from by have h := rbit_any M 10 W (by omega) (by decide); rw [hsg] at h; exact h)
            have HNa := Lib.hid (show sg = false → N2 = ⟨k, m, c.u, c.g, [], [], tg⟩ from fun q => by rw [HN2E.out, hSG, q]; simp)
            have HNb := Lib.hid (show sg = true → k = 2 → N2 = ⟨k, m + 1024, c.u, d.gid, [], [], tg⟩ from fun q r => by rw [HN2E.out, hSG, q, if_pos ⟨rfl, r⟩, if_pos rfl])
            have HNc := Lib.hid (show sg = true → k ≠ 2 → N2 = ⟨k, m, c.u, d.gid, [], [], tg⟩ from fun q r => by rw [HN2E.out, hSG, q, if_neg (fun z => r z.2), if_pos rfl])
            have hne : N2.ents = [] := by rw [HN2E.out]
            have HNE := Lib.hid hne
            obtain ⟨hk1, hm1⟩ := HKM.out
            obtain ⟨hm0, hm2⟩ := hm1
            obtain ⟨x0, x1, x2, x3, x4, x5, x6, x7⟩ := HX8.out.c8
            obtain ⟨y0, y1, y2, y3, y4, y5, y6, y7⟩ := HX8.out.f8
            obtain ⟨z0, z1, z2, z3, z4, z5, z6, z7⟩ := hd9.c8
            obtain ⟨o0, o1, o2, o3, o4, o5, o6, o7⟩ := hx9.c8
            obtain ⟨v0, v1, v2, v3, v4, v5, v6, v7⟩ := hx9.f8
            have hkc := HC8.out.kept (grown_setCell w8 ⟨zn, 2, none⟩ (.int .i64 c.u)) (some_ne HZC.out)
            obtain ⟨-, kk1, -⟩ := hkc.c3
            rw [hM] at z1
            clear hd9 hx9 hg9 hkc hM hMB hsg hSG hne A28 A22 A0' HUQ hk1
            go_wp2_with fail
            refine (HBI.out _).mono ?_
            rintro e w9 ⟨rfl, rfl⟩
            go_upto_if 53 with fail
            go_cut [53] (fun s53 wx => s53 = .bool sg ∧ w8.grownBy wx (some zn) ∧ Blk wx zn 82 (rfC N2 (.slice none 0 0) (.slice none 0 0)))
            case first =>
              cases sg with
              | false =>
                have HN3' := Lib.hid (HNa.out rfl)
                go_wp2
                go_meet
                exact ⟨rfl, HG9.out, by rw [HN3'.out]; exact HX9.out⟩
              | true =>
                by_cases hk2 : k = 2
                · have hk2' : (k == 2) = true := by simpa using hk2
                  have HN3' := Lib.hid (HNb.out rfl hk2)
                  clear hk2
                  go_wp2
                  go_meet
                  exact ⟨rfl, grown_trans (grown_trans HG9.out (grown_setCell _ ⟨zn, 3, none⟩ _)) (grown_setCell _ ⟨zn, 1, none⟩ _), by rw [HN3'.out]; exact pf_one (pf_three HX9.out d.gid) (m + 1024)⟩
                · have hk2' : (k == 2) = false := by simpa using hk2
                  have HN3' := Lib.hid (HNc.out rfl hk2)
                  clear hk2
                  go_wp2
                  go_meet
                  exact ⟨rfl, grown_trans HG9.out (grown_setCell _ ⟨zn, 3, none⟩ _), by rw [HN3'.out]; exact pf_three HX9.out d.gid⟩
            case rest =>
            obtain ⟨rfl, hgr, hxn⟩ := hcut
            clear k0' k1 k2 f0 f1 f2 t0 r0 r1 s0 x0 x1 x2 x3 x4 x5 x6 x7 y0 y1 y2 y3 y4 y5 y6 y7 z0 z1 z2 z3 z4 z5 z6 z7 o0 o1 o2 o3 o4 o5 o6 o7 v0 v1 v2 v3 v4 v5 v6 v7 kk1 hm0 hm2 HNa HNb HNc HBI HX9 HG9
            obtain ⟨w9, hw9⟩ : ∃ W, wc = W := ⟨_, rfl⟩
            rw [hw9] at hgr hxn ⊢
            have HB9 := Lib.hid (below_grown HB8.out hgr HZW.out)
            have HN9 := Lib.hid (HN8.out.other hgr (fun b hb => hb.2.2.1))
            have HT9 := Lib.hid (HT8.out.kept hgr (some_ne HZT.out))
            have HF9 := Lib.hid (HF8.out.kept hgr (some_ne HZF.out))
            have HD9 := Lib.hid (HD8.out.kept hgr (some_ne HZ5.out))
            have HR9 := Lib.hid (HR8.out.kept hgr (some_ne HZR.out))
            have HLS9 := Lib.hid (And.intro (HLS8.out.1.other hgr (fun ad n c hv => (HLP.out.1 ad n c hv).1)) (HLS8.out.2.other hgr (fun ad n c hv => (HLP.out.2 ad n c hv).1)))
            have HXW := Lib.hid hxn.lt
            have HPW := Lib.hid (show ∀ b, w9.heap.size ≤ b → P b ∧ b ≠ R ∧ b ≠ zn ∧ b ≠ zd from fun b hb => by
              have h1 := HB9.out.size
              have h2 := HR9.out.lt
              have h3 := hxn.lt
              have h4 := HD9.out.lt
              exact ⟨HP.out b (by omega), by omega, by omega, by omega⟩)
            have HAD := Lib.hid (radd_any (P := fun b => P b ∧ b ≠ R ∧ b ≠ zn ∧ b ≠ zd) (.slice (some ⟨g, 0, none⟩) t.length cc) t 0 N2 (.slice none 0 0) (.slice none 0 0) w9 HN9.out HTL.out (by rw [HNE.out]; exact StrsR.nil _) (by rw [HNE.out]; exact IntsR.nil _) HNF.out (LP.nil _) (LP.nil _) HPW.out)
            obtain ⟨x0, x1, x2, x3, x4, x5, x6, x7⟩ := hxn.c8
            have t0 := HT9.out.cell 0
            simp at t0
            by_cases hr : rightP N2
            · obtain ⟨c1, c2, c3, c4, c5⟩ := HA0.out hr
              have e1 : actT t 1 0 N2 (toB (rightP N2)) = setT t (freeT t 0) N2 := by
                unfold actT
                rw [toB_true hr, if_neg (by decide), if_pos rfl, if_pos ⟨rfl, c5⟩]
              have e2 : addI t (toB (rightP N2)) = freeT t 0 := by rw [toB_true hr]; rfl
              have e3 : addE t (toB (rightP N2)) = 0 := addE_zero.2 ⟨hr, c5⟩
              rw [e1, e2, e3] at HAD
              have HC1 := Lib.hid c1
              have HC2 := Lib.hid c2
              have HC3 := Lib.hid c3
              have HC4 := Lib.hid c4
              obtain ⟨id, hid⟩ : ∃ id : Int, (freeT t 0 : Int) = id := ⟨_, rfl⟩
              obtain ⟨T1, hT1⟩ : ∃ T1, setT t (freeT t 0) N2 = T1 := ⟨_, rfl⟩
              rw [hT1] at HAD HC2
              rw [hid] at HAD HC2 HC3 HC4
              have HT1L := Lib.hid (show T1.length = t.length from by rw [← hT1]; exact len_setT _ _ _)
              clear hr c1 c2 c3 c4 c5 e1 e2 e3 HA22 HA0 hid hT1
              go_wp2_with fail
              refine HAD.out.mono ?_
              rintro e w10 ⟨v1, rfl, hn10, hb10⟩
              obtain ⟨g1, cc1, rfl⟩ := ns_form hn10
              have hbx := al hb10 (.cells #[.slice (some ⟨g1, 0, none⟩) T1.length cc1] 32)
              have hu := Blk.new w10 32 #[.slice (some ⟨g1, 0, none⟩) T1.length cc1]
              have hn11 := hn10.below (ba w10 (.cells #[.slice (some ⟨g1, 0, none⟩) T1.length cc1] 32))
              have HZU := Lib.hid (show zd ≠ w10.heap.size from Nat.ne_of_lt (HD9.out.below hb10).lt)
              obtain ⟨W11, hW11⟩ : ∃ W11, w10.alloc (.cells #[.slice (some ⟨g1, 0, none⟩) T1.length cc1] 32) = W11 := ⟨_, rfl⟩
              rw [hW11] at hbx hu hn11
              obtain ⟨zu, hzu⟩ : ∃ zu, w10.heap.size = zu := ⟨_, rfl⟩
              rw [hzu] at hu HZU
              have HN11 := Lib.hid hn11
              have HU11 := Lib.hid hu
              have HB11 := Lib.hid (bt hbx HB9.out)
              have hbxs := Lib.hid hbx.size
              have HD11 := Lib.hid (HD9.out.below hbx)
              have HF11 := Lib.hid (HF9.out.below hbx)
              have HR11 := Lib.hid (HR9.out.below hbx)
              have HLS11 := Lib.hid (And.intro (HLS9.out.1.below hbx) (HLS9.out.2.below hbx))
              have HP11 := Lib.hid (show ∀ b, W11.heap.size ≤ b → P b ∧ b ≠ R ∧ b ≠ zn ∧ b ≠ zd from fun b hb => HPW.out b (by have := hbx.size; omega))
              have HWD := Lib.hid (show Calls Tryz.prog 87 #[.agg (rfC d (.slice A1' d.ents.length k1') (.slice A2' d.ents.length k2')), .string (bA F.name), .int .i64 id] W11 fun e w' => ∃ vn2 vk2, e = .returned (.tuple #[.agg (rfC (withM d F.name id) vn2 vk2), .int .i64 0]) ∧ (StrsR w' vn2 (nmA (nmE (withM d F.name id).ents)) ∧ IntsR w' vk2 (idE (withM d F.name id).ents)) ∧ (LP (fun b => (P b ∧ b ≠ R ∧ b ≠ zn ∧ b ≠ zd) ∧ b < w'.heap.size) vn2 ∧ LP (fun b => (P b ∧ b ≠ R ∧ b ≠ zn ∧ b ≠ zd) ∧ b < w'.heap.size) vk2) ∧ Below W11.heap.size W11 w' from by
                have h1 := ref_with d (.slice A1' d.ents.length k1') (.slice A2' d.ents.length k2') F.name id W11 HLS11.out.1 HLS11.out.2 HDF.out.ents HDF.out.names (HNL.out HQ0.out)
                rw [HC4.out] at h1
                refine h1.mono ?_
                rintro e w' ⟨v2, rfl, ⟨vn2, vk2, rfl, a1, a2, a3, a4⟩, hb⟩
                exact ⟨vn2, vk2, rfl, ⟨a1, a2⟩, ⟨a3.mono (fun b h => ⟨HP11.out b h.1, h.2⟩), a4.mono (fun b h => ⟨HP11.out b h.1, h.2⟩)⟩, hb⟩)
              clear hb10 hn10 hbx hu hn11 t0 x0 x1 x2 x3 x4 x5 x6 x7 HAD HLS9
              obtain ⟨z0, z1, z2, z3, z4, z5, z6, z7⟩ := HD11.out.c8
              obtain ⟨f0, f1, f2⟩ := HF11.out.c3
              go_wp2_with fail
              clear hW11 hzu
              refine HWD.out.mono ?_
              rintro e w12 ⟨vn2, vk2, rfl, hls, hlp, hb12⟩
              generalize withM d F.name id = d2 at hls hlp HC2 ⊢
              obtain ⟨A3', k3', rfl⟩ := strs_form hls.1 (nm_len _)
              obtain ⟨A4', k4', rfl⟩ := ints_form hls.2 (idE_len _)
              have hg13 := grown8 w12 zd (.int .i64 d2.kind) (.int .i64 d2.mode) (.int .i64 d2.uid) (.int .i64 d2.gid) (.string (bA d2.data)) (.slice A3' d2.ents.length k3') (.slice A4' d2.ents.length k4') (.string (bA d2.target))
              have hz13 := (HD11.out.below hb12).put8 (.int .i64 d2.kind) (.int .i64 d2.mode) (.int .i64 d2.uid) (.int .i64 d2.gid) (.string (bA d2.data)) (.slice A3' d2.ents.length k3') (.slice A4' d2.ents.length k4') (.string (bA d2.target))
              have HN13 := Lib.hid ((HN11.out.below hb12).other hg13 (fun b hb => hb.2.2.2))
              have HU13 := Lib.hid ((HU11.out.below hb12).kept hg13 (some_ne (fun q => HZU.out q.symm)))
              have HF13 := Lib.hid ((HF11.out.below hb12).kept hg13 (some_ne HZD4.out))
              have HR13 := Lib.hid ((HR11.out.below hb12).kept hg13 (some_ne HZD1.out))
              have HB13 := Lib.hid (below_grown (bt hb12 HB11.out) hg13 HZL.out)
              have HLS13 := Lib.hid (And.intro (hls.1.other hg13 (fun ad n c hv => (hlp.1 ad n c hv).1.2.2.2)) (hls.2.other hg13 (fun ad n c hv => (hlp.2 ad n c hv).1.2.2.2)))
              have HLP13 := Lib.hid (And.intro (hlp.1.mono (fun b h => (⟨h.1, by have h1 := hg13.size; have h2 := h.2; omega⟩ : (P b ∧ b ≠ R ∧ b ≠ zn ∧ b ≠ zd) ∧ b < (put8 w12 zd (.int .i64 d2.kind) (.int .i64 d2.mode) (.int .i64 d2.uid) (.int .i64 d2.gid) (.string (bA d2.data)) (.slice A3' d2.ents.length k3') (.slice A4' d2.ents.length k4') (.string (bA d2.target))).heap.size))) (hlp.2.mono (fun b h => (⟨h.1, by have h1 := hg13.size; have h2 := h.2; omega⟩ : (P b ∧ b ≠ R ∧ b ≠ zn ∧ b ≠ zd) ∧ b < (put8 w12 zd (.int .i64 d2.kind) (.int .i64 d2.mode) (.int .i64 d2.uid) (.int .i64 d2.gid) (.string (bA d2.data)) (.slice A3' d2.ents.length k3') (.slice A4' d2.ents.length k4') (.string (bA d2.target))).heap.size))))
              have HXL13 := Lib.hid (show zn < (put8 w12 zd (.int .i64 d2.kind) (.int .i64 d2.mode) (.int .i64 d2.uid) (.int .i64 d2.gid) (.string (bA d2.data)) (.slice A3' d2.ents.length k3') (.slice A4' d2.ents.length k4') (.string (bA d2.target))).heap.size from Nat.lt_of_lt_of_le (Nat.lt_of_lt_of_le HXW.out (Nat.le_trans hbxs.out hb12.size)) hg13.size)
              have HDL13 := Lib.hid hz13.lt
              obtain ⟨y0, y1, y2, y3, y4, y5, y6, y7⟩ := (HD11.out.below hb12).f8
              clear z0 z1 z2 z3 z4 z5 z6 z7 f0 f1 f2 hls hlp HWD HN11 HU11 HF11 HR11 HB11 HLS11
              obtain ⟨x0, x1, x2, x3, x4, x5, x6, x7⟩ := (HD11.out.below hb12).c8
              clear hg13
              go_upto_region 19 with fail
              change Code.wp _ _ _ _ (put8 w12 zd (.int .i64 d2.kind) (.int .i64 d2.mode) (.int .i64 d2.uid) (.int .i64 d2.gid) (.string (bA d2.data)) (.slice A3' d2.ents.length k3') (.slice A4' d2.ents.length k4') (.string (bA d2.target)))
              clear x0 x1 x2 x3 x4 x5 x6 x7 y0 y1 y2 y3 y4 y5 y6 y7 hb12
              generalize (put8 w12 zd (.int .i64 d2.kind) (.int .i64 d2.mode) (.int .i64 d2.uid) (.int .i64 d2.gid) (.string (bA d2.data)) (.slice A3' d2.ents.length k3') (.slice A4' d2.ents.length k4') (.string (bA d2.target))) = W13 at hz13 HXL13 HDL13 HN13 HU13 HF13 HR13 HB13 HLS13 HLP13 ⊢
              have hu13 := HU13.out.cell 0
              obtain ⟨f0, f1, f2⟩ := HF13.out.c3
              obtain ⟨z0, z1, z2, z3, z4, z5, z6, z7⟩ := hz13.c8
              simp at hu13
              clear hz13
              obtain ⟨kk, hkk⟩ : ∃ kk : Nat, F.dir = (kk : Int) + 1 := ⟨(F.dir - 1).toNat, by have := HIN.out; omega⟩
              have HWI := Lib.hid (show Calls Tryz.prog 32 #[.agg #[.slice (some ⟨g1, 0, none⟩) T1.length cc1], .int .i64 F.dir, .agg (rfC d2 (.slice A3' d2.ents.length k3') (.slice A4' d2.ents.length k4'))] W13 fun e w' => ∃ g' c', e = .returned (.agg #[.slice (some ⟨g', 0, none⟩) t.length c']) ∧ PlA P w CT CI CE (.returned (.tuple #[.agg #[.slice (some ⟨g', 0, none⟩) t.length c'], .int .i64 id, .int .i64 0])) (w'.setCell ⟨R, 0, none⟩ (.slice (some ⟨g', 0, none⟩) t.length c')) ∧ Below W13.heap.size W13 w' from by
                have hin := HIN.out
                have hl1 := HT1L.out
                have htl := HTL.out
                have h1 := rwith_any (P := fun b => P b ∧ b ≠ R ∧ b ≠ zn ∧ b ≠ zd) (.slice (some ⟨g1, 0, none⟩) T1.length cc1) T1 kk d2 (.slice A3' d2.ents.length k3') (.slice A4' d2.ents.length k4') W13 W13 HN13.out (Below.refl _ _) (by omega) (by omega) HLS13.out.1 HLS13.out.2 HLP13.out.1 HLP13.out.2
                rw [← hkk] at h1
                refine h1.mono ?_
                rintro e w' ⟨v', rfl, hf, hb⟩
                have hlt := HR13.out.lt
                have hlw := HB13.out.size
                have h2 : NsR (fun b => P b ∧ b ≠ R) w' v' (setT T1 F.dir d2) := (hf.ns hb (fun b hb => by
                  have h3 := HR13.out.lt
                  have h4 := HXL13.out
                  have h5 := HDL13.out
                  exact ⟨HP.out b (by omega), by omega, by omega, by omega⟩)).mono (fun b h _ => ⟨h.1, h.2.1⟩)
                obtain ⟨g', c', rfl⟩ := ns_form h2
                rw [len_setT, hl1] at h2 ⊢
                exact ⟨g', c', rfl, pla_back h2 (fun b h => h) (bt hb HB13.out) HRW.out HC1.out (by rw [HC2.out]) HC3.out, hb⟩)
              clear hkk
              go_wp2_with fail
              refine HWI.out.mono ?_
              rintro e w14 ⟨g', c', rfl, hA, hb⟩
              have HAA := Lib.hid hA
              have hr := HR13.out.below hb
              have r0 := hr.cell 0
              have r1 := hr.frozen 0
              simp at r0
              have s0 : ∀ u, (w14.setCell ⟨R, 0, none⟩ u).cell? ⟨R, 0, none⟩ = some u := fun u => (hr.set_ 0 u).cell 0
              clear hA hb hr
              go_wp2
              exact bodyPost_ret (v := .tuple #[.agg #[.slice (some ⟨g', 0, none⟩) t.length c'], .int .i64 id, .int .i64 0]) (by simp [results, Tryz.results59, go_sem, s0]) rfl HAA.out
            · have HA := Lib.hid (HA22.out hr)
              have e1 : actT t 1 0 N2 (toB (rightP N2)) = t := by
                unfold actT
                rw [toB_false hr, if_neg (by decide), if_pos rfl, if_neg (fun q => by cases q.1)]
              have e2 : addI t (toB (rightP N2)) = 0 := by rw [toB_false hr]; rfl
              have e3 : addE t (toB (rightP N2)) = 22 := by rw [toB_false hr]; rfl
              rw [e1, e2, e3] at HAD
              clear hr e1 e2 e3 HA22 HA0
              go_wp2_with fail
              refine HAD.out.mono ?_
              rintro e w10 ⟨v1, rfl, hn10, hb10⟩
              obtain ⟨g1, cc1, rfl⟩ := ns_form hn10
              have hbx := al hb10 (.cells #[.slice (some ⟨g1, 0, none⟩) t.length cc1] 32)
              have HB11 := Lib.hid (bt hbx HB9.out)
              have HN11 := Lib.hid (HN9.out.below hbx)
              have HR11 := Lib.hid (HR9.out.below hbx)
              have HT11 := Lib.hid (HT9.out.below hbx)
              clear t0 x0 x1 x2 x3 x4 x5 x6 x7 hn10
              have t0 := HT11.out.cell 0
              have r0 := HR11.out.cell 0
              have r1 := HR11.out.frozen 0
              simp at t0 r0
              obtain ⟨W11, hW11⟩ : ∃ W11, w10.alloc (.cells #[.slice (some ⟨g1, 0, none⟩) t.length cc1] 32) = W11 := ⟨_, rfl⟩
              rw [hW11] at HB11 HN11 HR11 HT11 t0 r0 r1
              have s0 : ∀ u, (W11.setCell ⟨R, 0, none⟩ u).cell? ⟨R, 0, none⟩ = some u := fun u => (HR11.out.set_ 0 u).cell 0
              clear hbx hb10
              go_wp2
              exact bodyPost_ret (v := .tuple #[.agg #[.slice (some ⟨g, 0, none⟩) t.length cc], .int .i64 0, .int .i64 22]) (by simp [results, Tryz.results59, go_sem, s0]) rfl (pla_back HN11.out (fun b hb => ⟨hb.1, hb.2.1⟩) HB11.out HRW.out (HA.out).1 (HA.out).2.1 (HA.out).2.2)
  · have q0' : (F.node != 0) = true := by simpa using q0
    have HA := Lib.hid (A17.out q0)
    clear q0
    go_enter Tryz.func59, Tryz.ntmps59
    go_wp2
    exact bodyPost_ret (v := .tuple #[.agg #[.slice (some ⟨g, 0, none⟩) t.length cc], .int .i64 0, .int .i64 17]) (by simp [results, Tryz.results59, go_sem, s0]) rfl (pla_back HN4.out (fun b hb => ⟨hb.1, hb.2.1⟩) HB4.out HRW.out (HA.out).1 (HA.out).2.1 (HA.out).2.2)
end Go.Proofs.YtfopnfgfoicidaaGreat
