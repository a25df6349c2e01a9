/-
  The walk of AttrLast: it answers true of whatever is told, of any who ask, of any path and two modes. The condition: what is told is no longer than a machine can hold.
-/
import Derived.Test.YtinalglbibmmpaaAwk
import Derived.Deep.RegionWith
namespace Go.Proofs.Ytinalglbibmmpaa
open Go Go.RowKit
set_option maxRecDepth 100000

attribute [local go_sem] cell_off4 cell_blk4
theorem sam_refl (t : List Nd) : toB (sam24 t t) = true := toB_true (fun _ _ => rfl)
set_option maxHeartbeats 8000000 in
theorem llast_any (x0 : Int) (v1 : Value) (l : List Rw) (c : Wh) (A0 : Option Addr) (n0 k0 : Nat) (s : ByteArray) (a b : Int) (ha : 0 ≤ a ∧ a ≤ 65535) (hb : 0 ≤ b ∧ b ≤ 65535) (w : World) (h1 : RawsR w v1 l) (hl1 : l.length ≤ maxLen) (h2 : IntsR w (.slice A0 n0 k0) c.gs) :
    Calls Try.prog 4 #[.int .i64 x0, v1, .agg #[.int .i64 c.u, .int .i64 c.g, .slice A0 n0 k0], .string s, .int .u16 a, .int .u16 b] w fun e w' => e = .returned (.bool true) ∧ Below w.heap.size w w' := by
  have hb0 := ba w (.cells #[.int .i64 c.u, .int .i64 c.g, .slice A0 n0 k0] 25)
  have hk0 := Blk.new w 25 #[.int .i64 c.u, .int .i64 c.g, .slice A0 n0 k0]
  obtain ⟨W1, hW1⟩ : ∃ W1, w.alloc (.cells #[.int .i64 c.u, .int .i64 c.g, .slice A0 n0 k0] 25) = W1 := ⟨_, rfl⟩
  rw [hW1] at hb0 hk0
  have HA := Lib.hid (awake13_any W1)
  have HR := Lib.hid (h1.below hb0)
  have HI := Lib.hid (h2.below hb0)
  have HL := Lib.hid hl1
  have HC0 := Lib.hid h2
  have HB0 := Lib.hid hb0
  have HK0 := Lib.hid hk0
  clear h1 h2 hl1 hb0 hk0
  go_enter Try.func4, Try.ntmps4
  go_wp2_with fail
  clear hW1
  refine HA.out.mono ?_
  rintro e w2 ⟨rfl, hb2⟩
  have hk2 := HK0.out.below hb2
  have HB2 := Lib.hid (bt hb2 HB0.out)
  have HK2 := Lib.hid hk2
  have HI2 := Lib.hid (HI.out.below hb2)
  have HBL := Lib.hid (built_any x0 v1 l c A0 n0 k0 w2 (HR.out.below hb2) HL.out HI2.out)
  obtain ⟨k0', k1, k2⟩ := hk2.c3
  clear hb2 HA HK0 HI HR HB0
  go_wp2_with fail
  refine HBL.out.mono ?_
  rintro e w3 ⟨hans, hb3⟩
  have HB3 := Lib.hid (bt hb3 HB2.out)
  have hk3 := HK2.out.below hb3
  have HI3 := Lib.hid (HI2.out.below hb3)
  have hkl := hk2.lt
  clear k0' k1 k2 hb3 HBL hk2
  rcases hans with ⟨rfl, -⟩ | ⟨g, T, rfl, hB, hT, hG⟩
  · clear hk3 hkl
    go_wp2
    go_ret
    exact ⟨rfl, HB3.out⟩
  have HTT := Lib.hid hT
  have HTR := Lib.hid ((tre_all hB.2).1)
  have HCR := Lib.hid (show CrR w c A0 n0 k0 from ⟨HC0.out, by have := hB.1.2; omega⟩)
  have HK3 := Lib.hid hk3
  have HGE := Lib.hid (show w.heap.size ≤ g from Nat.le_trans HB2.out.size hG)
  have HKG := Lib.hid (show w.heap.size ≠ g from Nat.ne_of_lt (Nat.lt_of_lt_of_le hkl hG))
  have HGL := Lib.hid hT.lt
  obtain ⟨k0', k1, k2⟩ := hk3.c3
  clear hT hB hk3 HK2 HI2 HB2 hG hkl HC0 HI3
  by_cases hc : 100 < s.size
  · have yc : (s.size : Int) > 100 := by omega
    clear hc
    go_wp2
    go_ret
    exact ⟨rfl, HB3.out⟩
  have yc : ¬ (s.size : Int) > 100 := by omega
  clear hc
  obtain ⟨x, hx⟩ : ∃ x, a % 4096 = x := ⟨_, rfl⟩
  obtain ⟨y, hy⟩ : ∃ y, b % 4096 = y := ⟨_, rfl⟩
  have HX0 := Lib.hid (show 0 ≤ x ∧ x ≤ 4095 from by rw [← hx]; omega)
  have HY0 := Lib.hid (show 0 ≤ y ∧ y ≤ 4095 from by rw [← hy]; omega)
  have hxt : a.tmod 4096 = x := by rw [← hx]; exact Int.tmod_eq_emod_of_nonneg ha.1
  have hyt : b.tmod 4096 = y := by rw [← hy]; exact Int.tmod_eq_emod_of_nonneg hb.1
  have HA0 := Lib.hid ha
  have HB0 := Lib.hid hb
  obtain ⟨T1, hT1⟩ : ∃ T1, chmT T c (tl s) x = T1 := ⟨_, rfl⟩
  obtain ⟨T2, hT2⟩ : ∃ T2, chmT T1 c (tl s) y = T2 := ⟨_, rfl⟩
  obtain ⟨T3, hT3⟩ : ∃ T3, chmT T c (tl s) y = T3 := ⟨_, rfl⟩
  obtain ⟨E, hE⟩ : ∃ E, chmE T c (tl s) x = E := ⟨_, rfl⟩
  obtain ⟨F, hF⟩ : ∃ F, chmE T1 c (tl s) y = F := ⟨_, rfl⟩
  obtain ⟨G, hG⟩ : ∃ G, chmE T c (tl s) y = G := ⟨_, rfl⟩
  obtain ⟨XH, hXH⟩ : ∃ XH, staM T2 c (tl s) true = XH := ⟨_, rfl⟩
  obtain ⟨X, H⟩ := XH
  have HTR1 := Lib.hid (show Trx T1 from by rw [← hT1]; exact chm_trx HTR.out c (tl s) x)
  have HTR2 := Lib.hid (show Trx T2 from by rw [← hT2]; exact chm_trx HTR1.out c (tl s) y)
  have HOP := Lib.hid (fun (q : H ≠ 0) => show E ≠ 0 ∨ F ≠ 0 ∨ bits .and .i64 (bits .and .i64 x y) 73 ≠ 73 from by
    have h := last_opens (t := T) (c := c) (p := tl s) HX0.out.1 HX0.out.2 HY0.out.1 HY0.out.2 (by rw [hT1, hT2, hXH]; exact q)
    rw [hT1, hE, hF] at h
    exact h)
  have HFI := Lib.hid (fun (q : H = 0) (k : X.kind ≠ 2) => show F = E ∧ G = E ∧ T2 = T3 from by
    obtain ⟨h1, h2, h3, -⟩ := last_file HTR.out (c := c) (p := tl s) HX0.out.1 HX0.out.2 HY0.out.1 HY0.out.2 (by rw [hT1, hT2, hXH]; exact q) (by rw [hT1, hT2, hXH]; exact k)
    rw [hT1, hE, hF] at h1
    rw [hE, hG] at h2
    rw [hT1, hT2, hT3] at h3
    exact ⟨h1, h2, h3⟩)
  obtain ⟨T4, hT4⟩ : ∃ T4, chwT T2 wh0 (tl s) a b true = T4 := ⟨_, rfl⟩
  have HTR4 := Lib.hid (show Trx T4 from by rw [← hT4]; exact chw_trx HTR2.out wh0 (tl s) a b true)
  have HBK := Lib.hid (fun (q : H = 0) => show chwE T2 wh0 (tl s) a b true = 0 ∧ chwE T4 wh0 (tl s) X.uid X.gid true = 0 ∧ chwT T4 wh0 (tl s) X.uid X.gid true = T2 from by
    have hz : (staM T2 c (tl s) true).2 = 0 := by rw [hXH]; exact q
    have hs := staM_same hz
    rw [hXH] at hs
    obtain ⟨-, d2, -, d4⟩ := staM_zero hz
    rw [hXH] at d2 d4
    have d5 : X = staT T2 X.node := d4
    have d6 := sta_is d2
    have e1 : X.uid = (tget T2 X.node).uid := by rw [d5, d6]
    have e2 : X.gid = (tget T2 X.node).gid := by rw [d5, d6]
    have h := root_back HTR2.out.ok (p := tl s) HA0.out.1 HA0.out.2 HB0.out.1 HB0.out.2 (by rw [hs]; exact q) X.uid X.gid (by rw [hs]; exact e1) (by rw [hs]; exact e2)
    rw [hT4] at h
    exact h)
  have HM1 := Lib.hid (fun (W : World) (h : TabR W g T (fun _ => True)) (hb : Below w.heap.size w W) => show Calls Try.prog 12 #[.pointer (some ⟨g, 0, none⟩), .agg #[.int .i64 c.u, .int .i64 c.g, .slice A0 n0 k0], .string s, .int .i64 x] W fun e w' => e = .returned (.int .i64 E) ∧ TabR w' g T1 (fun _ => True) ∧ W.grownBy w' (some g) from by have h1 := chmod_any g T (fun _ => True) c A0 n0 k0 (tl s) x W h HTR.out (HCR.out.below hb) (fun _ _ => trivial); rw [hE, hT1, bA_tl] at h1; exact h1)
  have HM2 := Lib.hid (fun (W : World) (h : TabR W g T1 (fun _ => True)) (hb : Below w.heap.size w W) => show Calls Try.prog 12 #[.pointer (some ⟨g, 0, none⟩), .agg #[.int .i64 c.u, .int .i64 c.g, .slice A0 n0 k0], .string s, .int .i64 y] W fun e w' => e = .returned (.int .i64 F) ∧ TabR w' g T2 (fun _ => True) ∧ W.grownBy w' (some g) from by have h1 := chmod_any g T1 (fun _ => True) c A0 n0 k0 (tl s) y W h HTR1.out (HCR.out.below hb) (fun _ _ => trivial); rw [hF, hT2, bA_tl] at h1; exact h1)
  have HM3 := Lib.hid (fun (u : Nat) (W : World) (h : TabR W u T (fun _ => True)) (hb : Below w.heap.size w W) => show Calls Try.prog 12 #[.pointer (some ⟨u, 0, none⟩), .agg #[.int .i64 c.u, .int .i64 c.g, .slice A0 n0 k0], .string s, .int .i64 y] W fun e w' => e = .returned (.int .i64 G) ∧ TabR w' u T3 (fun _ => True) ∧ W.grownBy w' (some u) from by have h1 := chmod_any u T (fun _ => True) c A0 n0 k0 (tl s) y W h HTR.out (HCR.out.below hb) (fun _ _ => trivial); rw [hG, hT3, bA_tl] at h1; exact h1)
  have HST := Lib.hid (fun (W : World) (h : TabR W g T2 (fun _ => True)) (hb : Below w.heap.size w W) => show Calls Try.prog 13 #[.pointer (some ⟨g, 0, none⟩), .agg #[.int .i64 c.u, .int .i64 c.g, .slice A0 n0 k0], .string s] W fun e w' => e = .returned (.tuple #[.agg #[.int .i64 X.node, .int .i64 X.kind, .int .i64 X.mode, .int .i64 X.uid, .int .i64 X.gid, .int .i64 X.links, .int .i64 X.size], .int .i64 H]) ∧ Below W.heap.size W w' from by have h1 := stat_any (.pointer (some ⟨g, 0, none⟩)) T2 c A0 n0 k0 (tl s) W h.ptr (HCR.out.below hb) (X, H) hXH; rw [bA_tl] at h1; exact h1)
  have HW1 := Lib.hid (fun (q : H = 0) (v : Nat) (W : World) (h : TabR W v T2 (fun _ => True)) => show Calls Try.prog 9 #[.pointer (some ⟨v, 0, none⟩), .agg #[.int .i64 0, .int .i64 0, .slice none 0 0], .string s, .int .i64 a, .int .i64 b, .bool true] W fun e w' => e = .returned (.int .i64 0) ∧ TabR w' v T4 (fun _ => True) ∧ W.grownBy w' (some v) from by have h1 := chown_any v T2 (fun _ => True) wh0 none 0 0 (tl s) a b true W h HTR2.out (crr_nil W wh0 rfl) (fun _ _ => trivial); rw [(HBK.out q).1, hT4, bA_tl] at h1; exact h1)
  have HW2 := Lib.hid (fun (q : H = 0) (v : Nat) (W : World) (h : TabR W v T4 (fun _ => True)) => show Calls Try.prog 9 #[.pointer (some ⟨v, 0, none⟩), .agg #[.int .i64 0, .int .i64 0, .slice none 0 0], .string s, .int .i64 X.uid, .int .i64 X.gid, .bool true] W fun e w' => e = .returned (.int .i64 0) ∧ TabR w' v T2 (fun _ => True) ∧ W.grownBy w' (some v) from by have h1 := chown_any v T4 (fun _ => True) wh0 none 0 0 (tl s) X.uid X.gid true W h HTR4.out (crr_nil W wh0 rfl) (fun _ _ => trivial); rw [(HBK.out q).2.1, (HBK.out q).2.2, bA_tl] at h1; exact h1)
  clear hT1 hT2 hT3 hT4 hE hF hG hXH
  go_wp2_with fail
  refine (clone_any g T (fun _ => True) (fun _ => True) w3 HTT.out (fun _ _ => trivial)).mono ?_
  rintro e w4 ⟨rfl, hu, hb4⟩
  have HUG := Lib.hid (show w3.heap.size ≠ g from Nat.ne_of_gt HGL.out)
  have HKU := Lib.hid (show w.heap.size ≠ w3.heap.size from Nat.ne_of_lt HK3.out.lt)
  have HUL := Lib.hid (show w.heap.size ≤ w3.heap.size from HB3.out.size)
  generalize w3.heap.size = u at hu HUG HKU HUL ⊢
  have HU4 := Lib.hid hu
  have HT4 := Lib.hid (HTT.out.below hb4)
  have hk4 := HK3.out.below hb4
  have HK4 := Lib.hid hk4
  have HB4 := Lib.hid (bt hb4 HB3.out)
  clear hu hb4 k0' k1 k2
  obtain ⟨k0', k1, k2⟩ := hk4.c3
  clear hk4
  go_wp2_with fail
  clear hxt hyt hx hy
  refine (HM1.out w4 HT4.out HB4.out).mono ?_
  rintro e w5 ⟨rfl, ht, hgr⟩
  have HT5 := Lib.hid ht
  have HU5 := Lib.hid (show TabR w5 u T (fun _ => True) from by obtain ⟨cs, hg, -⟩ := HT4.out.blk; exact HU4.out.kind hgr HUG.out hg (by decide) (by decide))
  have hk := HK4.out.kept hgr (some_ne HKG.out)
  have HK5 := Lib.hid hk
  have HB5 := Lib.hid (grown_bl HB4.out hgr HGE.out)
  clear ht hgr k0' k1 k2
  obtain ⟨k0', k1, k2⟩ := hk.c3
  clear hk
  go_wp2_with fail
  refine (HM2.out w5 HT5.out HB5.out).mono ?_
  rintro e w6 ⟨rfl, ht, hgr⟩
  have HT6 := Lib.hid ht
  have HU6 := Lib.hid (show TabR w6 u T (fun _ => True) from by obtain ⟨cs, hg, -⟩ := HT5.out.blk; exact HU5.out.kind hgr HUG.out hg (by decide) (by decide))
  have hk := HK5.out.kept hgr (some_ne HKG.out)
  have HK6 := Lib.hid hk
  have HB6 := Lib.hid (grown_bl HB5.out hgr HGE.out)
  clear ht hgr k0' k1 k2
  obtain ⟨k0', k1, k2⟩ := hk.c3
  clear hk
  go_wp2_with fail
  refine (HM3.out u w6 HU6.out HB6.out).mono ?_
  rintro e w7 ⟨rfl, ht, hgr⟩
  have HU7 := Lib.hid ht
  have HT7 := Lib.hid (show TabR w7 g T2 (fun _ => True) from by obtain ⟨cs, hg, -⟩ := HU6.out.blk; exact HT6.out.kind hgr (fun q => HUG.out q.symm) hg (by decide) (by decide))
  have hk := HK6.out.kept hgr (some_ne HKU.out)
  have HK7 := Lib.hid hk
  have HB7 := Lib.hid (grown_bl HB6.out hgr HUL.out)
  clear ht hgr k0' k1 k2
  obtain ⟨k0', k1, k2⟩ := hk.c3
  clear hk
  go_wp2_with fail
  refine (HST.out w7 HT7.out HB7.out).mono ?_
  rintro e w8 ⟨rfl, hb8⟩
  have hbx := al hb8 (.cells #[.int .i64 X.node, .int .i64 X.kind, .int .i64 X.mode, .int .i64 X.uid, .int .i64 X.gid, .int .i64 X.links, .int .i64 X.size] 44)
  have hs := Blk.new w8 44 #[.int .i64 X.node, .int .i64 X.kind, .int .i64 X.mode, .int .i64 X.uid, .int .i64 X.gid, .int .i64 X.links, .int .i64 X.size]
  obtain ⟨z, hz⟩ : ∃ z, w8.heap.size = z := ⟨_, rfl⟩
  obtain ⟨W8, hW8⟩ : ∃ W8, w8.alloc (.cells #[.int .i64 X.node, .int .i64 X.kind, .int .i64 X.mode, .int .i64 X.uid, .int .i64 X.gid, .int .i64 X.links, .int .i64 X.size] 44) = W8 := ⟨_, rfl⟩
  rw [hW8] at hbx hs
  rw [hz] at hs
  have HS8 := Lib.hid hs
  have HT8 := Lib.hid (HT7.out.below hbx)
  have HU8 := Lib.hid (HU7.out.below hbx)
  have HB8 := Lib.hid (bt hbx HB7.out)
  obtain ⟨s0, s1, s2, s3, s4, s5, s6⟩ := hs.c7
  clear hb8 hbx hs k0' k1 k2
  by_cases qH : H = 0
  · have q1 : (H != 0) = false := by simpa using qH
    by_cases qk : X.kind = 2
    · have q2 : (X.kind == 2) = true := by simpa using qk
      clear qk qH
      go_wp2
      go_ret
      exact ⟨rfl, HB8.out⟩
    · have q2 : (X.kind == 2) = false := by simpa using qk
      obtain ⟨e1, e2, e3⟩ := HFI.out qH qk
      subst e1 e2 e3
      have HC8 := Lib.hid (clone_any g T2 (fun _ => True) (fun _ => True))
      have HW1' := Lib.hid (HW1.out qH)
      have HW2' := Lib.hid (HW2.out qH)
      clear qk qH HW1 HW2 HFI HOP HBK
      go_wp2_with fail
      clear hW8 hz
      have hb9 := ba W8 (.cells #[.int .i64 0, .int .i64 0, .slice none 0 0] 25)
      have hr9 := Blk.new W8 25 #[.int .i64 0, .int .i64 0, .slice none 0 0]
      have HRL := Lib.hid (show w.heap.size ≤ W8.heap.size from HB8.out.size)
      have HB9 := Lib.hid (bt hb9 HB8.out)
      have HT9 := Lib.hid (HT8.out.below hb9)
      have HU9 := Lib.hid (HU8.out.below hb9)
      have HS9 := Lib.hid (HS8.out.below hb9)
      generalize W8.alloc (.cells #[.int .i64 0, .int .i64 0, .slice none 0 0] 25) = W9 at hr9 HB9 HT9 HU9 HS9 ⊢
      generalize W8.heap.size = r at hr9 HRL ⊢
      have HR9 := Lib.hid hr9
      clear hb9 hr9 s0 s1 s2 s3 s4 s5 s6
      refine (HC8.out W9 HT9.out (fun _ _ => trivial)).mono ?_
      rintro e w10 ⟨rfl, hv, hb⟩
      have hr := HR9.out.below hb
      have HVR := Lib.hid (show r ≠ W9.heap.size from Nat.ne_of_lt HR9.out.lt)
      have HVZ := Lib.hid (show z ≠ W9.heap.size from Nat.ne_of_lt HS9.out.lt)
      have HVG := Lib.hid (show g ≠ W9.heap.size from Nat.ne_of_lt HT9.out.lt)
      have HVU := Lib.hid (show u ≠ W9.heap.size from Nat.ne_of_lt HU9.out.lt)
      have HVL := Lib.hid (show w.heap.size ≤ W9.heap.size from HB9.out.size)
      generalize W9.heap.size = v at hv HVR HVZ HVG HVU HVL ⊢
      have HV10 := Lib.hid hv
      have HB10 := Lib.hid (bt hb HB9.out)
      have HT10 := Lib.hid (HT9.out.below hb)
      have HU10 := Lib.hid (HU9.out.below hb)
      have HS10 := Lib.hid (HS9.out.below hb)
      have HR10 := Lib.hid hr
      obtain ⟨k0, k1, k2⟩ := hr.c3
      clear hv hb hr
      go_wp2_with fail
      refine (HW1'.out v w10 HV10.out).mono ?_
      rintro e w11 ⟨rfl, ht, hgr⟩
      have HV11 := Lib.hid ht
      have HB11 := Lib.hid (grown_bl HB10.out hgr HVL.out)
      have HT11 := Lib.hid (show TabR w11 g T2 (fun _ => True) from by obtain ⟨cs, hg, -⟩ := HV10.out.blk; exact HT10.out.kind hgr HVG.out hg (by decide) (by decide))
      have HU11 := Lib.hid (show TabR w11 u T2 (fun _ => True) from by obtain ⟨cs, hg, -⟩ := HV10.out.blk; exact HU10.out.kind hgr HVU.out hg (by decide) (by decide))
      have hr := HR10.out.kept hgr (some_ne HVR.out)
      have hs := HS10.out.kept hgr (some_ne HVZ.out)
      clear k0 k1 k2
      obtain ⟨k0, k1, k2⟩ := hr.c3
      obtain ⟨s0, s1, s2, s3, s4, s5, s6⟩ := hs.c7
      clear ht hgr hr hs
      go_wp2_with fail
      refine (HW2'.out v w11 HV11.out).mono ?_
      rintro e w12 ⟨rfl, ht, hgr⟩
      have HB12 := Lib.hid (grown_bl HB11.out hgr HVL.out)
      have HT12 := Lib.hid (show TabR w12 g T2 (fun _ => True) from by obtain ⟨cs, hg, -⟩ := HV11.out.blk; exact HT11.out.kind hgr HVG.out hg (by decide) (by decide))
      have HU12 := Lib.hid (show TabR w12 u T2 (fun _ => True) from by obtain ⟨cs, hg, -⟩ := HV11.out.blk; exact HU11.out.kind hgr HVU.out hg (by decide) (by decide))
      have HS1 := Lib.hid (show Calls Try.prog 14 #[.pointer (some ⟨g, 0, none⟩), .pointer (some ⟨u, 0, none⟩)] w12 fun e w' => e = .returned (.bool true) ∧ Below w12.heap.size w12 w' from by have h := tsame_any _ _ _ _ w12 HT12.out.ptr HU12.out.ptr; rw [sam_refl] at h; exact h)
      have HS2 := Lib.hid (fun (W : World) (hb : Below w12.heap.size w12 W) => show Calls Try.prog 14 #[.pointer (some ⟨v, 0, none⟩), .pointer (some ⟨g, 0, none⟩)] W fun e w' => e = .returned (.bool true) ∧ Below W.heap.size W w' from by have h := tsame_any _ _ _ _ W (ht.below hb).ptr (HT12.out.below hb).ptr; rw [sam_refl] at h; exact h)
      have y0 : (G == G) = true := by simp
      clear ht hgr k0 k1 k2 s0 s1 s2 s3 s4 s5 s6
      go_wp2_with fail
      refine HS1.out.mono ?_
      rintro e w13 ⟨rfl, hb⟩
      have HB13 := Lib.hid hb
      clear hb
      go_wp2_with fail
      refine (HS2.out w13 HB13.out).mono ?_
      rintro e w14 ⟨rfl, hb⟩
      have HB14 := Lib.hid (bt hb (bt HB13.out HB12.out))
      clear hb
      go_wp2
      go_ret
      exact ⟨ret_bool (by first | rfl | simp), HB14.out⟩
  · have q1 : (H != 0) = true := by simpa using qH
    by_cases qE : E = 0
    · have q2 : (E != 0) = false := by simpa using qE
      by_cases qF : F = 0
      · have q3 : (F != 0) = false := by simpa using qF
        have hq : bits .and .i64 (bits .and .i64 x y) 73 ≠ 73 := (HOP.out qH).elim (fun h => absurd qE h) (fun h => h.elim (fun h => absurd qF h) id)
        have q4 : (bits .and .i64 (bits .and .i64 x y) 73 != 73) = true := by simpa using hq
        clear qE qF hq qH
        go_wp2
        go_ret
        exact ⟨ret_bool (by first | rfl | simp), HB8.out⟩
      · have q3 : (F != 0) = true := by simpa using qF
        clear qE qF qH
        go_wp2
        go_ret
        exact ⟨ret_bool (by first | rfl | simp), HB8.out⟩
    · have q2 : (E != 0) = true := by simpa using qE
      clear qE qH
      go_wp2
      go_ret
      exact ⟨ret_bool (by first | rfl | simp), HB8.out⟩
end Go.Proofs.Ytinalglbibmmpaa
