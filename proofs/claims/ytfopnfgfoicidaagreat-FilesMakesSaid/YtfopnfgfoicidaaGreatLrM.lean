/-
  The walk of FilesMakes: it answers true of whatever is told, of any who ask, of any umask, path and mode. The conditions: what is told is no longer than a machine can hold; what is said of package files.
-/
import Derived.Test.YtfopnfgfoicidaaGreatAwF
import Derived.Test.YtfopnfgfoicidaaGreatFiO
import Derived.Test.YtfopnfgfoicidaaGreatLP
import Derived.Deep.RegionWith
import Derived.Deep.DeepCutAuto
import Derived.Deep.CutBlock
namespace Go.Proofs.YtfopnfgfoicidaaGreat
open Go Go.RowKit
set_option maxRecDepth 100000

attribute [local go_sem] cell_off4 cell_blk4
theorem blt_kept {W W' : World} {x g : Nat} {T U : List Nd} {P Q : Nat → Prop} (h : TabR W x T P) (hg : TabR W g U Q) (hgr : W.grownBy W' (some g)) (hne : x ≠ g) : TabR W' x T P := by
  obtain ⟨cs, hb, -⟩ := hg.blk
  exact h.kind hgr hne hb (by decide) (by decide)
theorem sam_refl (t : List Nd) : toB (sam24 t t) = true := toB_true (fun _ _ => rfl)
set_option maxHeartbeats 8000000 in
theorem lmakes_any (x0 : Int) (v1 : Value) (l : List Rw) (c : Wh) (A0 : Option Addr) (n0 k0 : Nat) (HPC : FilesC) (um : Int) (s : ByteArray) (md : Int) (w : World) (h1 : RawsR w v1 l) (hl1 : l.length ≤ maxLen) (h2 : IntsR w (.slice A0 n0 k0) c.gs) (hum : 0 ≤ um ∧ um ≤ 65535) (hmd : 0 ≤ md ∧ md ≤ 65535) :
    Calls Tryz.prog 7 #[.int .i64 x0, v1, .agg #[.int .i64 c.u, .int .i64 c.g, .slice A0 n0 k0], .int .u16 um, .string s, .int .u16 md] w fun e w' => e = .returned (.bool true) ∧ Below w.heap.size w w' := by
  have hb0 := ba w (.cells #[.int .i64 c.u, .int .i64 c.g, .slice A0 n0 k0] 25)
  have hk0 := Blk.new w 25 #[.int .i64 c.u, .int .i64 c.g, .slice A0 n0 k0]
  obtain ⟨W1, hW1⟩ : ∃ W1, w.alloc (.cells #[.int .i64 c.u, .int .i64 c.g, .slice A0 n0 k0] 25) = W1 := ⟨_, rfl⟩
  rw [hW1] at hb0 hk0
  have HA := Lib.hid (awk16_any HPC W1)
  have HR := Lib.hid (h1.below hb0)
  have HI := Lib.hid (h2.below hb0)
  have HL := Lib.hid hl1
  have HC0 := Lib.hid h2
  have HB0 := Lib.hid hb0
  have HK0 := Lib.hid hk0
  have HUM := Lib.hid hum
  have HMO := Lib.hid hmd
  clear h1 h2 hl1 hb0 hk0 hum hmd
  go_enter Tryz.func7, Tryz.ntmps7
  go_wp2_with fail
  clear hW1
  refine HA.out.mono ?_
  rintro e w2 ⟨rfl, hb2⟩
  have hk2 := HK0.out.below hb2
  have HB2 := Lib.hid (bt hb2 HB0.out)
  have HK2 := Lib.hid hk2
  have HI2 := Lib.hid (HI.out.below hb2)
  have HBL := Lib.hid (built_any x0 v1 l c A0 n0 k0 w2 (HR.out.below hb2) HL.out HI2.out)
  obtain ⟨k0', k1, k2⟩ := hk2.c3
  clear hb2 HA HK0 HI HR HB0
  go_wp2_with fail
  refine HBL.out.mono ?_
  rintro e w3 ⟨hans, hb3⟩
  have HB3 := Lib.hid (bt hb3 HB2.out)
  have hk3 := HK2.out.below hb3
  have HI3 := Lib.hid (HI2.out.below hb3)
  have hkl := hk2.lt
  clear k0' k1 k2 hb3 HBL hk2
  rcases hans with ⟨rfl, -⟩ | ⟨g, T, rfl, hB, hT, hG⟩
  · clear hk3 hkl
    go_wp2
    go_ret
    exact ⟨rfl, HB3.out⟩
  have HTT := Lib.hid hT
  have HTR := Lib.hid ((tre_all hB.2).1)
  have HCR := Lib.hid (show CrR w c A0 n0 k0 from ⟨HC0.out, by have := hB.1.2; omega⟩)
  have HK3 := Lib.hid hk3
  have HGE := Lib.hid (show w.heap.size ≤ g from Nat.le_trans HB2.out.size hG)
  have HKG := Lib.hid (show w.heap.size ≠ g from Nat.ne_of_lt (Nat.lt_of_lt_of_le hkl hG))
  have HGL := Lib.hid hT.lt
  obtain ⟨k0', k1, k2⟩ := hk3.c3
  clear hT hB hk3 HK2 HI2 HB2 hG hkl HC0 HI3
  by_cases hc : 100 < s.size
  · have yc : (s.size : Int) > 100 := by omega
    clear hc
    go_wp2
    go_ret
    exact ⟨rfl, HB3.out⟩
  have yc : ¬ (s.size : Int) > 100 := by omega
  clear hc
  obtain ⟨P, rfl⟩ : ∃ P, s = bA P := ⟨tl s, (bA_tl s).symm⟩
  obtain ⟨E, hE⟩ : ∃ E, foE T c um P 14 md = E := ⟨_, rfl⟩
  obtain ⟨I, hI⟩ : ∃ E, foI T c um P 14 md = E := ⟨_, rfl⟩
  obtain ⟨T1, hT1⟩ : ∃ E, foT T c um P 14 md = E := ⟨_, rfl⟩
  obtain ⟨⟨S0, g0⟩, hG⟩ : ∃ G, staM T c P false = G := ⟨_, rfl⟩
  have hM := makes_all HTR.out c P um md
  rw [hE, hI, hT1, hG] at hM
  have HM := Lib.hid hM
  have HLA := Lib.hid (fun (W : World) (h : TabR W g T (fun _ => True)) (hb : Below w.heap.size w W) => show Calls Tryz.prog 24 #[.pointer (some ⟨g, 0, none⟩), .agg #[.int .i64 c.u, .int .i64 c.g, .slice A0 n0 k0], .string (bA P)] W fun e w' => e = .returned (.tuple #[.agg #[.int .i64 S0.node, .int .i64 S0.kind, .int .i64 S0.mode, .int .i64 S0.uid, .int .i64 S0.gid, .int .i64 S0.links, .int .i64 S0.size], .int .i64 g0]) ∧ Below W.heap.size W w' from lstat_any (.pointer (some ⟨g, 0, none⟩)) T c A0 n0 k0 P W h.ptr (HCR.out.below hb) (S0, g0) hG)
  have HOP := Lib.hid (fun (W : World) (h : TabR W g T (fun _ => True)) (hb : Below w.heap.size w W) => show Calls Tryz.prog 13 #[.pointer (some ⟨g, 0, none⟩), .agg #[.int .i64 c.u, .int .i64 c.g, .slice A0 n0 k0], .int .i64 um, .string (bA P), .int .i64 14, .int .i64 md] W fun e w' => e = .returned (.tuple #[.int .i64 I, .int .i64 E]) ∧ TabR w' g T1 (fun _ => True) ∧ W.grownBy w' (some g) from by have h1 := HPC.op g T (fun _ => True) c A0 n0 k0 um P 14 md W h HTR.out.ok (HCR.out.below hb) (fun _ _ => trivial); rw [hE, hI, hT1] at h1; exact h1)
  have HPD := Lib.hid HPC
  clear hM hE hI hT1 hG HPC
  obtain ⟨u0, u1⟩ := HUM.out
  obtain ⟨m0, m1⟩ := HMO.out
  go_wp2_with fail
  refine (clone_any g T (fun _ => True) (fun _ => True) w3 HTT.out (fun _ _ => trivial)).mono ?_
  rintro e w4 ⟨rfl, hu, hb4⟩
  have HUG := Lib.hid (show w3.heap.size ≠ g from Nat.ne_of_gt HGL.out)
  generalize w3.heap.size = u at hu HUG ⊢
  have HU4 := Lib.hid hu
  have HTc := Lib.hid (HTT.out.below hb4)
  have hk4 := HK3.out.below hb4
  have HK4 := Lib.hid hk4
  have HB4 := Lib.hid (bt hb4 HB3.out)
  clear hu hb4 k0' k1 k2 HTT HK3 HB3
  obtain ⟨k0', k1, k2⟩ := hk4.c3
  clear hk4
  go_wp2_with fail
  refine (HLA.out w4 HTc.out HB4.out).mono ?_
  rintro e w5 ⟨rfl, hb⟩
  have hbx := al hb (.cells #[.int .i64 S0.node, .int .i64 S0.kind, .int .i64 S0.mode, .int .i64 S0.uid, .int .i64 S0.gid, .int .i64 S0.links, .int .i64 S0.size] 65)
  have hsx := Blk.new w5 65 #[.int .i64 S0.node, .int .i64 S0.kind, .int .i64 S0.mode, .int .i64 S0.uid, .int .i64 S0.gid, .int .i64 S0.links, .int .i64 S0.size]
  have hzg := Nat.ne_of_gt (HTc.out.below hb).lt
  obtain ⟨W5, hW5⟩ : ∃ W, w5.alloc (.cells #[.int .i64 S0.node, .int .i64 S0.kind, .int .i64 S0.mode, .int .i64 S0.uid, .int .i64 S0.gid, .int .i64 S0.links, .int .i64 S0.size] 65) = W := ⟨_, rfl⟩
  obtain ⟨za, hza⟩ : ∃ z, w5.heap.size = z := ⟨_, rfl⟩
  rw [hW5] at hbx hsx
  rw [hza] at hsx hzg
  have HU5 := Lib.hid (HU4.out.below hbx)
  have HT5 := Lib.hid (HTc.out.below hbx)
  have HB5 := Lib.hid (bt hbx HB4.out)
  have HK5 := Lib.hid (HK4.out.below hbx)
  clear k0' k1 k2 hb hbx hsx hzg HU4 HTc HK4 HB4
  obtain ⟨k0', k1, k2⟩ := HK5.out.c3
  go_wp2_with fail
  clear hW5 hza
  refine (HOP.out W5 HT5.out HB5.out).mono ?_
  rintro e w6 ⟨rfl, ht, hgr⟩
  have HTc := Lib.hid ht
  have HU6 := Lib.hid (blt_kept HU5.out HT5.out hgr HUG.out)
  have HK6 := Lib.hid (HK5.out.kept hgr (some_ne HKG.out))
  have HB6 := Lib.hid (grown_bl HB5.out hgr HGE.out)
  have HSM := Lib.hid (fun (q : T1 = T) => show Calls Tryz.prog 20 #[.pointer (some ⟨g, 0, none⟩), .pointer (some ⟨u, 0, none⟩)] w6 fun e w' => e = .returned (.bool true) ∧ Below w6.heap.size w6 w' from by have h := tsame_any (.pointer (some ⟨g, 0, none⟩)) (.pointer (some ⟨u, 0, none⟩)) T1 T w6 HTc.out.ptr HU6.out.ptr; rw [q, sam_refl] at h; exact h)
  clear ht hgr k0' k1 k2 HU5 HT5 HK5 HB5 HOP HLA
  by_cases q0 : g0 = 0
  · have y0 : (g0 == 0) = true := by simpa using q0
    obtain ⟨rfl, e2⟩ := HM.out.here q0
    have HS := Lib.hid (HSM.out e2)
    clear q0 e2
    go_wp2_with fail
    refine HS.out.mono ?_
    rintro e w7 ⟨rfl, hb⟩
    have HB7 := Lib.hid (bt hb HB6.out)
    clear hb
    go_wp2
    go_ret
    exact ⟨ret_bool (by first | rfl | simp), HB7.out⟩
  have y0 : (g0 == 0) = false := by simpa using q0
  by_cases q1 : E = 0
  case neg =>
    have y1 : (E != 0) = true := by simpa using q1
    obtain ⟨e2, rfl⟩ := HM.out.err q1
    have HS := Lib.hid (HSM.out e2)
    clear q0 q1 e2
    go_wp2_with fail
    refine HS.out.mono ?_
    rintro e w7 ⟨rfl, hb⟩
    have HB7 := Lib.hid (bt hb HB6.out)
    clear hb
    go_wp2
    go_ret
    exact ⟨ret_bool (by first | rfl | simp), HB7.out⟩
  have y1 : (E != 0) = false := by simpa using q1
  obtain ⟨e2, ⟨gid, hst⟩, hag, htx⟩ := HM.out.made q0 q1
  have e3 : g0 = 2 := e2
  subst e3
  obtain ⟨M, hMM⟩ : ∃ M, mskM md um = M := ⟨_, rfl⟩
  rw [hMM] at hst
  have y2 : (M == bits .andNot .i64 (bits .and .i64 md 511) um) = true := by rw [← hMM, ← msk_bits]; simp
  obtain ⟨D1, hD1⟩ : ∃ d, (1 : Int) = d := ⟨_, rfl⟩
  obtain ⟨D2, hD2⟩ : ∃ d, (1 : Int) = d := ⟨_, rfl⟩
  obtain ⟨D0, hD0⟩ : ∃ d, (0 : Int) = d := ⟨_, rfl⟩
  have yD1 : (D1 == 1) = true := by rw [← hD1]; rfl
  have yD0 : (D0 == 0) = true := by rw [← hD0]; rfl
  have hstD : staM T1 c P false = (⟨I, D1, M, c.u, gid, D2, D0⟩, 0) := by rw [← hD1, ← hD2, ← hD0]; exact hst
  have HLB := Lib.hid (show Calls Tryz.prog 24 #[.pointer (some ⟨g, 0, none⟩), .agg #[.int .i64 c.u, .int .i64 c.g, .slice A0 n0 k0], .string (bA P)] w6 fun e w' => e = .returned (.tuple #[.agg #[.int .i64 I, .int .i64 D1, .int .i64 M, .int .i64 c.u, .int .i64 gid, .int .i64 D2, .int .i64 D0], .int .i64 0]) ∧ Below w6.heap.size w6 w' from lstat_any (.pointer (some ⟨g, 0, none⟩)) T1 c A0 n0 k0 P w6 HTc.out.ptr (HCR.out.below HB6.out) (⟨I, D1, M, c.u, gid, D2, D0⟩, 0) hstD)
  obtain ⟨I2, hI2⟩ : ∃ I, foI T1 c um P 14 md = I := ⟨_, rfl⟩
  have HOP := Lib.hid (fun (W : World) (h : TabR W g T1 (fun _ => True)) (hb : Below w.heap.size w W) => show Calls Tryz.prog 13 #[.pointer (some ⟨g, 0, none⟩), .agg #[.int .i64 c.u, .int .i64 c.g, .slice A0 n0 k0], .int .i64 um, .string (bA P), .int .i64 14, .int .i64 md] W fun e w' => e = .returned (.tuple #[.int .i64 I2, .int .i64 17]) ∧ TabR w' g T1 (fun _ => True) ∧ W.grownBy w' (some g) from by have h1 := HPD.out.op g T1 (fun _ => True) c A0 n0 k0 um P 14 md W h htx.ok (HCR.out.below hb) (fun _ _ => trivial); rw [(hag um md).1, (hag um md).2, hI2] at h1; exact h1)
  clear hstD hD1 hD2 hD0 q0 q1 e2 hst hag htx hMM hI2 HM HSM HPD
  obtain ⟨k0', k1, k2⟩ := HK6.out.c3
  go_wp2_with fail
  refine HLB.out.mono ?_
  rintro e w7 ⟨rfl, hb⟩
  have hbx := al hb (.cells #[.int .i64 I, .int .i64 D1, .int .i64 M, .int .i64 c.u, .int .i64 gid, .int .i64 D2, .int .i64 D0] 65)
  have hsx := Blk.new w7 65 #[.int .i64 I, .int .i64 D1, .int .i64 M, .int .i64 c.u, .int .i64 gid, .int .i64 D2, .int .i64 D0]
  have hzg := Nat.ne_of_gt (HTc.out.below hb).lt
  obtain ⟨W7, hW7⟩ : ∃ W, w7.alloc (.cells #[.int .i64 I, .int .i64 D1, .int .i64 M, .int .i64 c.u, .int .i64 gid, .int .i64 D2, .int .i64 D0] 65) = W := ⟨_, rfl⟩
  obtain ⟨zs, hzs⟩ : ∃ z, w7.heap.size = z := ⟨_, rfl⟩
  rw [hW7] at hbx hsx
  rw [hzs] at hsx hzg
  have HT7 := Lib.hid (HTc.out.below hbx)
  have HB7 := Lib.hid (bt hbx HB6.out)
  have HK7 := Lib.hid (HK6.out.below hbx)
  have HS7 := Lib.hid hsx
  have HZG := Lib.hid hzg
  clear k0' k1 k2 hb hbx hsx hzg HTc HK6 HB6 HU6 HLB
  go_wp2_with fail
  clear hW7 hzs
  refine (clone_any g T1 (fun _ => True) (fun _ => True) W7 HT7.out (fun _ _ => trivial)).mono ?_
  rintro e w8 ⟨rfl, hv, hb8⟩
  have HVG := Lib.hid (show W7.heap.size ≠ g from Nat.ne_of_gt HT7.out.lt)
  generalize W7.heap.size = vv at hv HVG ⊢
  have HV8 := Lib.hid hv
  have HT8 := Lib.hid (HT7.out.below hb8)
  have HK8 := Lib.hid (HK7.out.below hb8)
  have HS8 := Lib.hid (HS7.out.below hb8)
  have HB8 := Lib.hid (bt hb8 HB7.out)
  clear hv hb8 HT7 HK7 HS7 HB7
  obtain ⟨k0', k1, k2⟩ := HK8.out.c3
  go_wp2_with fail
  refine (HOP.out w8 HT8.out HB8.out).mono ?_
  rintro e w9 ⟨rfl, ht, hgr⟩
  have HT9 := Lib.hid ht
  have HV9 := Lib.hid (blt_kept HV8.out HT8.out hgr HVG.out)
  have HK9 := Lib.hid (HK8.out.kept hgr (some_ne HKG.out))
  have HS9 := Lib.hid (HS8.out.kept hgr (some_ne HZG.out))
  have HB9 := Lib.hid (grown_bl HB8.out hgr HGE.out)
  have HSE := Lib.hid (show Calls Tryz.prog 20 #[.pointer (some ⟨g, 0, none⟩), .pointer (some ⟨vv, 0, none⟩)] w9 fun e w' => e = .returned (.bool true) ∧ Below w9.heap.size w9 w' from by have h := tsame_any (.pointer (some ⟨g, 0, none⟩)) (.pointer (some ⟨vv, 0, none⟩)) T1 T1 w9 HT9.out.ptr HV9.out.ptr; rw [sam_refl] at h; exact h)
  clear ht hgr k0' k1 k2 HV8 HT8 HK8 HS8 HB8
  obtain ⟨k0', k1, k2⟩ := HK9.out.c3
  obtain ⟨s0, s1, s2, s3, s4, s5, s6⟩ := HS9.out.c7
  have y3 : (I == I) = true := by simp
  have y4 : (c.u == c.u) = true := by simp
  go_wp2_with fail
  refine HSE.out.mono ?_
  rintro e w10 ⟨rfl, hb⟩
  have HB10 := Lib.hid (bt hb HB9.out)
  clear hb
  go_wp2
  go_ret
  exact ⟨ret_bool (by first | rfl | simp_all), HB10.out⟩
end Go.Proofs.YtfopnfgfoicidaaGreat
