/-
  The walk of PlantNeeds: it answers true of whatever is told, of any who ask, of any umask, path and mode. The condition: what is told is no longer than a machine can hold.
-/
import Derived.Test.YtgcllgfkifpkeaaGreatAwQ
import Derived.Test.YtgcllgfkifpkeaaGreatPlQ
import Derived.Test.YtgcllgfkifpkeaaGreatLP
import Derived.Deep.RegionWith
import Derived.Deep.DeepCutAuto
namespace Go.Proofs.YtgcllgfkifpkeaaGreat
open Go Go.RowKit
set_option maxRecDepth 100000

attribute [local go_sem] cell_off4 cell_blk4
theorem blt_kept {W W' : World} {x g : Nat} {T U : List Nd} {P Q : Nat → Prop} (h : TabR W x T P) (hg : TabR W g U Q) (hgr : W.grownBy W' (some g)) (hne : x ≠ g) : TabR W' x T P := by
  obtain ⟨cs, hb, -⟩ := hg.blk
  exact h.kind hgr hne hb (by decide) (by decide)
theorem path_cat (D N : Nm) : (bA D ++ ⟨#[47]⟩ : ByteArray) ++ bA N = bA (D ++ 47 :: N) := by
  rw [← bA_tl ((bA D ++ ⟨#[47]⟩ : ByteArray) ++ bA N), tl_app, tl_app, tl_bA, tl_bA, show tl (⟨#[47]⟩ : ByteArray) = [47] from rfl, List.append_assoc]
  rfl
set_option maxHeartbeats 8000000 in
theorem lneeds_any (x0 : Int) (v1 : Value) (l : List Rw) (c : Wh) (A0 : Option Addr) (n0 k0 : Nat) (umask : Int) (s r : ByteArray) (mode : Int) (w : World) (h1 : RawsR w v1 l) (hl1 : l.length ≤ maxLen) (h2 : IntsR w (.slice A0 n0 k0) c.gs) :
    Calls Tryz.prog 5 #[.int .i64 x0, v1, .agg #[.int .i64 c.u, .int .i64 c.g, .slice A0 n0 k0], .int .i64 umask, .string s, .string r, .int .i64 mode] w fun e w' => e = .returned (.bool true) ∧ Below w.heap.size w w' := by
  have hb0 := ba w (.cells #[.int .i64 c.u, .int .i64 c.g, .slice A0 n0 k0] 25)
  have hk0 := Blk.new w 25 #[.int .i64 c.u, .int .i64 c.g, .slice A0 n0 k0]
  obtain ⟨W1, hW1⟩ : ∃ W1, w.alloc (.cells #[.int .i64 c.u, .int .i64 c.g, .slice A0 n0 k0] 25) = W1 := ⟨_, rfl⟩
  rw [hW1] at hb0 hk0
  have HA := Lib.hid (awk14_any W1)
  have HR := Lib.hid (h1.below hb0)
  have HI := Lib.hid (h2.below hb0)
  have HL := Lib.hid hl1
  have HC0 := Lib.hid h2
  have HB0 := Lib.hid hb0
  have HK0 := Lib.hid hk0
  clear h1 h2 hl1 hb0 hk0
  go_enter Tryz.func5, Tryz.ntmps5
  go_wp2_with fail
  clear hW1
  refine HA.out.mono ?_
  rintro e w2 ⟨rfl, hb2⟩
  have hk2 := HK0.out.below hb2
  have HB2 := Lib.hid (bt hb2 HB0.out)
  have HK2 := Lib.hid hk2
  have HI2 := Lib.hid (HI.out.below hb2)
  have HBL := Lib.hid (built_any x0 v1 l c A0 n0 k0 w2 (HR.out.below hb2) HL.out HI2.out)
  obtain ⟨k0', k1, k2⟩ := hk2.c3
  clear hb2 HA HK0 HI HR HB0
  go_wp2_with fail
  refine HBL.out.mono ?_
  rintro e w3 ⟨hans, hb3⟩
  have HB3 := Lib.hid (bt hb3 HB2.out)
  have hk3 := HK2.out.below hb3
  have HI3 := Lib.hid (HI2.out.below hb3)
  have hkl := hk2.lt
  clear k0' k1 k2 hb3 HBL hk2
  rcases hans with ⟨rfl, -⟩ | ⟨g, T, rfl, hB, hT, hG⟩
  · clear hk3 hkl
    go_wp2
    go_ret
    exact ⟨rfl, HB3.out⟩
  have HTT := Lib.hid hT
  have HTR := Lib.hid ((tre_all hB.2).1)
  have HCR := Lib.hid (show CrR w c A0 n0 k0 from ⟨HC0.out, by have := hB.1.2; omega⟩)
  have HK3 := Lib.hid hk3
  have HGE := Lib.hid (show w.heap.size ≤ g from Nat.le_trans HB2.out.size hG)
  have HKG := Lib.hid (show w.heap.size ≠ g from Nat.ne_of_lt (Nat.lt_of_lt_of_le hkl hG))
  have HGL := Lib.hid hT.lt
  obtain ⟨k0', k1, k2⟩ := hk3.c3
  clear hT hB hk3 HK2 HI2 HB2 hG hkl HC0 HI3
  obtain ⟨D, rfl⟩ : ∃ D, s = bA D := ⟨tl s, (bA_tl s).symm⟩
  obtain ⟨N, rfl⟩ : ∃ N, r = bA N := ⟨tl r, (bA_tl r).symm⟩
  have hsD := size_bA D
  have hsN := size_bA N
  by_cases hc1 : 30 < D.length
  · have y1 : ((bA D).size : Int) > 30 := by rw [hsD]; omega
    clear hc1 hsD hsN
    go_wp2
    go_ret
    exact ⟨rfl, HB3.out⟩
  have y1 : ¬ ((bA D).size : Int) > 30 := by rw [hsD]; omega
  by_cases hc2 : 12 < N.length
  · have y2 : ((bA N).size : Int) > 12 := by rw [hsN]; omega
    clear hc1 hc2 hsD hsN
    go_wp2
    go_ret
    exact ⟨rfl, HB3.out⟩
  have y2 : ¬ ((bA N).size : Int) > 12 := by rw [hsN]; omega
  have HNM := Lib.hid (fun (W : World) => show Calls Tryz.prog 24 #[.string (bA N)] W fun e w' => e = .returned (.bool (nok N)) ∧ W = w' from by have h := Name_any (bA N) W (by rw [hsN]; have h3 : 12 ≤ maxLen := (by decide); omega); rw [nam_nok, tl_bA] at h; exact h)
  have HD30 := Lib.hid (show D.length ≤ 30 from by omega)
  cases hnk : nok N with
  | false =>
    rw [hnk] at HNM
    clear hc1 hc2 hsD hsN hnk
    go_wp2_with fail
    refine (HNM.out w3).mono ?_
    rintro e w' ⟨rfl, rfl⟩
    go_wp2
    go_ret
    exact ⟨rfl, HB3.out⟩
  | true =>
  rw [hnk] at HNM
  have HNK := Lib.hid hnk
  by_cases hD : D = []
  · have y3 : ((bA D).toList == ([] : List UInt8)) = true := (len0_iff D).2 hD
    clear hc1 hc2 hsD hsN hnk hD
    go_wp2_with fail
    refine (HNM.out w3).mono ?_
    rintro e w' ⟨rfl, rfl⟩
    go_wp2
    go_ret
    exact ⟨rfl, HB3.out⟩
  have y3 : ((bA D).toList == ([] : List UInt8)) = false := ne_nil_of D hD
  have HDN := Lib.hid hD
  have z1 : (bA D).size ≤ 30 := by rw [hsD]; omega
  have z2 : (bA N).size ≤ 12 := by rw [hsN]; omega
  have z3 : (bA D ++ ⟨#[47]⟩ : ByteArray).size ≤ 31 := by rw [← tl_len, tl_app, List.length_append, tl_len]; show (bA D).size + 1 ≤ _; omega
  have hp := path_cat D N
  clear hc1 hc2 hsD hsN hnk hD
  go_wp2_with fail
  refine (HNM.out w3).mono ?_
  rintro e w' ⟨rfl, rfl⟩
  go_upto_region 8 with fail
  try rw [hp]
  clear hp y1 y2 y3 z1 z2 z3 HNM
  obtain ⟨P, hP⟩ : ∃ P, D ++ 47 :: N = P := ⟨_, rfl⟩
  rw [hP]
  obtain ⟨T1, hT1⟩ : ∃ T1, mkT T c umask P mode = T1 := ⟨_, rfl⟩
  obtain ⟨X, hX⟩ : ∃ X, mkE T c umask P mode = X := ⟨_, rfl⟩
  obtain ⟨SE, hSE⟩ : ∃ SE, staM T c D true = SE := ⟨_, rfl⟩
  obtain ⟨S, E⟩ := SE
  obtain ⟨LE, hLE⟩ : ∃ LE, staM T c P false = LE := ⟨_, rfl⟩
  obtain ⟨L, G⟩ := LE
  have HTH := Lib.hid (show G = 0 → L.node ≠ 0 ∧ X = 17 from fun q => by
    have h := needs_there (t := T) (c := c) (umask := umask) (p := P) (mode := mode) (by rw [hLE]; exact q)
    rw [hLE, hX] at h
    exact h)
  have HGO := Lib.hid (show X = 0 → E = 0 from fun q => by
    have h := needs_good HTR.out (c := c) (umask := umask) (mode := mode) HNK.out HDN.out (by have := HD30.out; omega) (by rw [hP, hX]; exact q)
    rw [hSE] at h
    exact h)
  have HMY := Lib.hid (show c.u ≠ 0 → c.u ≠ (tget T1 S.node).uid → bits .and .i64 (tget T1 S.node).mode 18 = 0 → X ≠ 0 from fun q1 q2 q3 => by
    have h := needs_may HTR.out (c := c) (umask := umask) (mode := mode) HNK.out HDN.out (by have := HD30.out; omega) q1
    rw [hP, hT1, hX, hSE] at h
    exact h q2 q3)
  have HST := Lib.hid (fun (W : World) (h : TabR W g T (fun _ => True)) (hb : Below w.heap.size w W) => show Calls Tryz.prog 25 #[.pointer (some ⟨g, 0, none⟩), .agg #[.int .i64 c.u, .int .i64 c.g, .slice A0 n0 k0], .string (bA D)] W fun e w' => e = .returned (.tuple #[.agg #[.int .i64 S.node, .int .i64 S.kind, .int .i64 S.mode, .int .i64 S.uid, .int .i64 S.gid, .int .i64 S.links, .int .i64 S.size], .int .i64 E]) ∧ Below W.heap.size W w' from stat_any (.pointer (some ⟨g, 0, none⟩)) T c A0 n0 k0 D W h.ptr (HCR.out.below hb) (S, E) hSE)
  have HLS := Lib.hid (fun (W : World) (h : TabR W g T (fun _ => True)) (hb : Below w.heap.size w W) => show Calls Tryz.prog 17 #[.pointer (some ⟨g, 0, none⟩), .agg #[.int .i64 c.u, .int .i64 c.g, .slice A0 n0 k0], .string (bA P)] W fun e w' => e = .returned (.tuple #[.agg #[.int .i64 L.node, .int .i64 L.kind, .int .i64 L.mode, .int .i64 L.uid, .int .i64 L.gid, .int .i64 L.links, .int .i64 L.size], .int .i64 G]) ∧ Below W.heap.size W w' from lstat_any (.pointer (some ⟨g, 0, none⟩)) T c A0 n0 k0 P W h.ptr (HCR.out.below hb) (L, G) hLE)
  have HMK := Lib.hid (fun (W : World) (h : TabR W g T (fun _ => True)) (hb : Below w.heap.size w W) => show Calls Tryz.prog 14 #[.pointer (some ⟨g, 0, none⟩), .agg #[.int .i64 c.u, .int .i64 c.g, .slice A0 n0 k0], .int .i64 umask, .string (bA P), .int .i64 mode] W fun e w' => e = .returned (.int .i64 X) ∧ TabR w' g T1 (fun _ => True) ∧ W.grownBy w' (some g) from by have h1 := mkdirC g T (fun _ => True) c A0 n0 k0 umask P mode W h HTR.out (HCR.out.below hb) (fun _ _ => trivial); rw [hX, hT1] at h1; exact h1)
  have HSY := Lib.hid (fun (u : Nat) (W : World) (h : TabR W u T (fun _ => True)) (hb : Below w.heap.size w W) => show Calls Tryz.prog 15 #[.pointer (some ⟨u, 0, none⟩), .agg #[.int .i64 c.u, .int .i64 c.g, .slice A0 n0 k0], .string ⟨#[113]⟩, .string (bA P)] W fun e w' => e = .returned (.int .i64 X) ∧ W.grownBy w' (some u) from by
    have h1 := symlinkC u T (fun _ => True) c A0 n0 k0 [113] P W h HTR.out (HCR.out.below hb) (by decide) (fun _ _ => trivial)
    rw [(needs_same T c umask P mode).1, hX] at h1
    refine Calls.mono h1 ?_
    rintro e w' ⟨q1, -, q2⟩
    exact ⟨q1, q2⟩)
  have HCA := Lib.hid (fun (u : Nat) (W : World) (h : TabR W u T (fun _ => True)) (hb : Below w.heap.size w W) => show Calls Tryz.prog 11 #[.pointer (some ⟨u, 0, none⟩), .agg #[.int .i64 c.u, .int .i64 c.g, .slice A0 n0 k0], .int .i64 umask, .string (bA P), .int .i64 mode, .bool false] W fun e w' => ∃ i, e = .returned (.tuple #[.int .i64 i, .int .i64 X]) ∧ W.grownBy w' (some u) from by
    have h1 := createC u T (fun _ => True) c A0 n0 k0 umask P mode false W h HTR.out (HCR.out.below hb) (fun _ _ => trivial)
    rw [(needs_same T c umask P mode).2, hX] at h1
    refine Calls.mono h1 ?_
    rintro e w' ⟨q1, -, q2⟩
    exact ⟨_, q1, q2⟩)
  clear hP hT1 hX hSE hLE
  go_wp2_with fail
  refine (HST.out w3 HTT.out HB3.out).mono ?_
  rintro e w4 ⟨rfl, hb4⟩
  have hbx := al hb4 (.cells #[.int .i64 S.node, .int .i64 S.kind, .int .i64 S.mode, .int .i64 S.uid, .int .i64 S.gid, .int .i64 S.links, .int .i64 S.size] 49)
  have hs := Blk.new w4 49 #[.int .i64 S.node, .int .i64 S.kind, .int .i64 S.mode, .int .i64 S.uid, .int .i64 S.gid, .int .i64 S.links, .int .i64 S.size]
  have HSG := Lib.hid (show w4.heap.size ≠ g from Nat.ne_of_gt (HTT.out.below hb4).lt)
  obtain ⟨W4, hW4⟩ : ∃ W4, w4.alloc (.cells #[.int .i64 S.node, .int .i64 S.kind, .int .i64 S.mode, .int .i64 S.uid, .int .i64 S.gid, .int .i64 S.links, .int .i64 S.size] 49) = W4 := ⟨_, rfl⟩
  rw [hW4] at hbx hs
  obtain ⟨z, hz⟩ : ∃ z, w4.heap.size = z := ⟨_, rfl⟩
  rw [hz] at hs HSG
  have HS4 := Lib.hid hs
  have HT4 := Lib.hid (HTT.out.below hbx)
  have hk := HK3.out.below hbx
  have HK4 := Lib.hid hk
  have HB4 := Lib.hid (bt hbx HB3.out)
  clear hb4 hbx hs k0' k1 k2 HST
  obtain ⟨k0', k1, k2⟩ := hk.c3
  clear hk
  go_wp2_with fail
  clear hW4 hz
  refine (HLS.out W4 HT4.out HB4.out).mono ?_
  rintro e w5 ⟨rfl, hb5⟩
  have hbx := al hb5 (.cells #[.int .i64 L.node, .int .i64 L.kind, .int .i64 L.mode, .int .i64 L.uid, .int .i64 L.gid, .int .i64 L.links, .int .i64 L.size] 49)
  have hs := Blk.new w5 49 #[.int .i64 L.node, .int .i64 L.kind, .int .i64 L.mode, .int .i64 L.uid, .int .i64 L.gid, .int .i64 L.links, .int .i64 L.size]
  have HLG := Lib.hid (show w5.heap.size ≠ g from Nat.ne_of_gt (HT4.out.below hb5).lt)
  obtain ⟨W5, hW5⟩ : ∃ W5, w5.alloc (.cells #[.int .i64 L.node, .int .i64 L.kind, .int .i64 L.mode, .int .i64 L.uid, .int .i64 L.gid, .int .i64 L.links, .int .i64 L.size] 49) = W5 := ⟨_, rfl⟩
  rw [hW5] at hbx hs
  obtain ⟨zl, hz⟩ : ∃ zl, w5.heap.size = zl := ⟨_, rfl⟩
  rw [hz] at hs HLG
  have HL5 := Lib.hid hs
  have HS5 := Lib.hid (HS4.out.below hbx)
  have HT5 := Lib.hid (HT4.out.below hbx)
  have hk := HK4.out.below hbx
  have HK5 := Lib.hid hk
  have HB5 := Lib.hid (bt hbx HB4.out)
  clear hb5 hbx hs k0' k1 k2 HLS
  obtain ⟨k0', k1, k2⟩ := hk.c3
  clear hk
  go_wp2_with fail
  clear hW5 hz
  refine (clone_any g T (fun _ => True) (fun _ => True) W5 HT5.out (fun _ _ => trivial)).mono ?_
  rintro e w6 ⟨rfl, hu, hb6⟩
  have HUG := Lib.hid (show W5.heap.size ≠ g from Nat.ne_of_gt HT5.out.lt)
  have HKU := Lib.hid (show w.heap.size ≠ W5.heap.size from Nat.ne_of_lt HK5.out.lt)
  have HSU := Lib.hid (show z ≠ W5.heap.size from Nat.ne_of_lt HS5.out.lt)
  have HLU := Lib.hid (show zl ≠ W5.heap.size from Nat.ne_of_lt HL5.out.lt)
  have HUL := Lib.hid (show w.heap.size ≤ W5.heap.size from HB5.out.size)
  generalize W5.heap.size = u at hu HUG HKU HUL HSU HLU ⊢
  have HU6 := Lib.hid hu
  have HT6 := Lib.hid (HT5.out.below hb6)
  have HS6 := Lib.hid (HS5.out.below hb6)
  have HL6 := Lib.hid (HL5.out.below hb6)
  have hk := HK5.out.below hb6
  have HK6 := Lib.hid hk
  have HB6 := Lib.hid (bt hb6 HB5.out)
  clear hu hb6 k0' k1 k2
  obtain ⟨k0', k1, k2⟩ := hk.c3
  clear hk
  go_wp2_with fail
  refine (clone_any g T (fun _ => True) (fun _ => True) w6 HT6.out (fun _ _ => trivial)).mono ?_
  rintro e w7 ⟨rfl, hv, hb7⟩
  have HVG := Lib.hid (show w6.heap.size ≠ g from Nat.ne_of_gt HT6.out.lt)
  have HVU := Lib.hid (show w6.heap.size ≠ u from Nat.ne_of_gt HU6.out.lt)
  have HKV := Lib.hid (show w.heap.size ≠ w6.heap.size from Nat.ne_of_lt HK6.out.lt)
  have HSV := Lib.hid (show z ≠ w6.heap.size from Nat.ne_of_lt HS6.out.lt)
  have HLV := Lib.hid (show zl ≠ w6.heap.size from Nat.ne_of_lt HL6.out.lt)
  have HVL := Lib.hid (show w.heap.size ≤ w6.heap.size from HB6.out.size)
  generalize w6.heap.size = v at hv HVG HVU HKV HSV HLV HVL ⊢
  have HV7 := Lib.hid hv
  have HU7 := Lib.hid (HU6.out.below hb7)
  have HT7 := Lib.hid (HT6.out.below hb7)
  have HS7 := Lib.hid (HS6.out.below hb7)
  have HL7 := Lib.hid (HL6.out.below hb7)
  have hk := HK6.out.below hb7
  have HK7 := Lib.hid hk
  have HB7 := Lib.hid (bt hb7 HB6.out)
  clear hv hb7 k0' k1 k2
  obtain ⟨k0', k1, k2⟩ := hk.c3
  clear hk
  go_wp2_with fail
  refine (HMK.out w7 HT7.out HB7.out).mono ?_
  rintro e w8 ⟨rfl, ht, hgr⟩
  have HT8 := Lib.hid ht
  have HU8 := Lib.hid (blt_kept HU7.out HT7.out hgr HUG.out)
  have HV8 := Lib.hid (blt_kept HV7.out HT7.out hgr HVG.out)
  have HS8 := Lib.hid (HS7.out.kept hgr (some_ne HSG.out))
  have HL8 := Lib.hid (HL7.out.kept hgr (some_ne HLG.out))
  have hk := HK7.out.kept hgr (some_ne HKG.out)
  have HK8 := Lib.hid hk
  have HB8 := Lib.hid (grown_bl HB7.out hgr HGE.out)
  clear ht hgr k0' k1 k2 HMK
  obtain ⟨k0', k1, k2⟩ := hk.c3
  clear hk
  go_wp2_with fail
  refine (HSY.out u w8 HU8.out HB8.out).mono ?_
  rintro e w9 ⟨rfl, hgr⟩
  have HT9 := Lib.hid (blt_kept HT8.out HU8.out hgr (fun q => HUG.out q.symm))
  have HV9 := Lib.hid (blt_kept HV8.out HU8.out hgr HVU.out)
  have HS9 := Lib.hid (HS8.out.kept hgr (some_ne HSU.out))
  have HL9 := Lib.hid (HL8.out.kept hgr (some_ne HLU.out))
  have hk := HK8.out.kept hgr (some_ne HKU.out)
  have HK9 := Lib.hid hk
  have HB9 := Lib.hid (grown_bl HB8.out hgr HUL.out)
  clear hgr k0' k1 k2 HSY
  obtain ⟨k0', k1, k2⟩ := hk.c3
  clear hk
  go_wp2_with fail
  refine (HCA.out v w9 HV9.out HB9.out).mono ?_
  rintro e w10 ⟨i2, rfl, hgr⟩
  have HTA := Lib.hid (blt_kept HT9.out HV9.out hgr (fun q => HVG.out q.symm))
  have hs := HS9.out.kept hgr (some_ne HSV.out)
  have hl := HL9.out.kept hgr (some_ne HLV.out)
  have hk := HK9.out.kept hgr (some_ne HKV.out)
  have HBA := Lib.hid (grown_bl HB9.out hgr HVL.out)
  have HSA := Lib.hid hs
  have HKA := Lib.hid hk
  have HLA := Lib.hid hl
  clear hgr k0' k1 k2 HCA hs hl hk HT4 HT5 HT6 HT7 HT8 HT9 HU6 HU7 HU8 HV7 HV8 HV9 HS4 HS5 HS6 HS7 HS8 HS9 HL5 HL6 HL7 HL8 HL9 HK3 HK4 HK5 HK6 HK7 HK8 HK9 HB4 HB5 HB6 HB7 HB8 HB9 HTT
  obtain ⟨k0', k1, k2⟩ := HKA.out.c3
  obtain ⟨a0, a1, a2, a3, a4, a5, a6⟩ := HSA.out.c7
  obtain ⟨l0, l1, l2, l3, l4, l5, l6⟩ := HLA.out.c7
  have x0 : (X != X) = false := by simp
  by_cases hG : G = 0
  · obtain ⟨h1, h2⟩ := HTH.out hG
    have r1 : (G == 0) = true := by simpa using hG
    have r2 : (L.node != 0) = true := by simpa using h1
    have r3 : (X == 17) = true := by simpa using h2
    clear hG h1 h2
    go_wp2
    go_ret
    exact ⟨rfl, HBA.out⟩
  have r1 : (G == 0) = false := by simpa using hG
  by_cases hE : E = 0
  · have r4 : (E == 0) = true := by simpa using hE
    by_cases hK : S.kind = 2
    · have r5 : (S.kind == 2) = true := by simpa using hK
      have HGT := Lib.hid (get_forms2 HTA.out S.node _ rfl)
      generalize tis T1 S.node = qq at HGT
      generalize tget T1 S.node = n at HGT HMY
      clear hG hE hK
      go_wp2_with fail
      refine HGT.out.mono ?_
      rintro e wa ⟨A1, n1, c1, A2, c2, rfl, -, hb⟩
      have hbx := al hb (.cells #[.int .i64 n.kind, .int .i64 n.mode, .int .i64 n.uid, .int .i64 n.gid, .slice A1 n1 c1, .slice A2 n.ents.length c2, .string (bA n.target)] 58)
      have hn := Blk.new wa 58 #[.int .i64 n.kind, .int .i64 n.mode, .int .i64 n.uid, .int .i64 n.gid, .slice A1 n1 c1, .slice A2 n.ents.length c2, .string (bA n.target)]
      obtain ⟨za, hza⟩ : ∃ za, wa.heap.size = za := ⟨_, rfl⟩
      obtain ⟨WB, hWB⟩ : ∃ WB, wa.alloc (.cells #[.int .i64 n.kind, .int .i64 n.mode, .int .i64 n.uid, .int .i64 n.gid, .slice A1 n1 c1, .slice A2 n.ents.length c2, .string (bA n.target)] 58) = WB := ⟨_, rfl⟩
      rw [hWB] at hbx hn
      rw [hza] at hn
      have hk := HKA.out.below hbx
      have HBB := Lib.hid (bt hbx HBA.out)
      clear hb hbx a0 a1 a2 a3 a4 a5 a6 l0 l1 l2 l3 l4 l5 l6 k0' k1 k2 HGT
      obtain ⟨k0', k1, k2⟩ := hk.c3
      obtain ⟨b0, b1, b2, b3, -⟩ := hn.c7
      clear hk hn
      by_cases hu : c.u = 0
      · have s1 : (c.u != 0) = false := by simp [hu]
        clear hu
        go_wp2
        go_ret
        exact ⟨rfl, HBB.out⟩
      have s1 : (c.u != 0) = true := by simpa using hu
      by_cases hv : c.u = n.uid
      · have s2 : (c.u != n.uid) = false := by simp [hv]
        clear hu hv
        go_wp2
        go_ret
        exact ⟨rfl, HBB.out⟩
      have s2 : (c.u != n.uid) = true := by simpa using hv
      by_cases hm : bits .and .i64 n.mode 18 = 0
      · have s3 : (bits .and .i64 n.mode 18 == 0) = true := by simpa using hm
        have s4 : (X != 0) = true := by simpa using HMY.out hu hv hm
        clear hu hv hm
        go_wp2
        go_ret
        exact ⟨rfl, HBB.out⟩
      have s3 : (bits .and .i64 n.mode 18 == 0) = false := by simpa using hm
      clear hu hv hm
      go_wp2
      go_ret
      exact ⟨rfl, HBB.out⟩
    · have r5 : (S.kind == 2) = false := by simpa using hK
      clear hG hE hK
      go_wp2
      go_ret
      exact ⟨rfl, HBA.out⟩
  · have r4 : (E == 0) = false := by simpa using hE
    have r5 : (X != 0) = true := by
      have h : X ≠ 0 := fun q => hE (HGO.out q)
      simpa using h
    clear hG hE
    go_wp2
    go_ret
    exact ⟨rfl, HBA.out⟩
end Go.Proofs.YtgcllgfkifpkeaaGreat
