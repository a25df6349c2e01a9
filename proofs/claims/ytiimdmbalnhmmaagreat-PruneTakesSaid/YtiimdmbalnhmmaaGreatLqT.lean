/-
  The walk of PruneTakes: it answers true of whatever is told, of any who ask, of any path, nodes that are open, and numbers. The conditions: what is told is no longer than a machine can hold; what is said of package prune.
-/
import Derived.Test.YtiimdmbalnhmmaaGreatAwR
import Derived.Test.YtiimdmbalnhmmaaGreatRPc
import Derived.Test.YtiimdmbalnhmmaaGreatTR
import Derived.Deep.RegionWith
import Derived.Deep.DeepCutAuto
import Derived.Deep.RegionHeld3
namespace Go.Proofs.YtiimdmbalnhmmaaGreat
open Go Go.RowKit
set_option maxRecDepth 100000

attribute [local go_sem] cell_off4 cell_blk4
/-- A box of a model's table, behind some steps. -/
structure Bt (w wx : World) (d g c : Nat) (T : List Nd) : Prop where
  blk : Blk wx d 35 #[.slice (some ⟨g, 0, none⟩) T.length c]
  ns : NsR (fun b => w.heap.size ≤ b ∧ b ≠ d) wx (.slice (some ⟨g, 0, none⟩) T.length c) T
  below : Below w.heap.size w wx
  lo : w.heap.size ≤ d
theorem Bt.put {w w9 : World} {d g c : Nat} {z : Value} {T : List Nd} (hk : Blk w9 d 35 #[z]) (hn : NsR (fun b => w.heap.size ≤ b ∧ b ≠ d) w9 (.slice (some ⟨g, 0, none⟩) T.length c) T) (hb : Below w.heap.size w w9) (hd : w.heap.size ≤ d) : Bt w (w9.setCell ⟨d, 0, none⟩ (.slice (some ⟨g, 0, none⟩) T.length c)) d g c T :=
  ⟨hk.set_ 0 _, hn.other (grown_setCell w9 ⟨d, 0, none⟩ _) (fun _ h => h.2), below_grown hb (grown_setCell _ _ _) hd, hd⟩
theorem Bt.fresh {w w9 : World} {g c : Nat} {T : List Nd} (hn : NsR (fun b => w.heap.size ≤ b) w9 (.slice (some ⟨g, 0, none⟩) T.length c) T) (hb : Below w.heap.size w w9) : Bt w (w9.alloc (.cells #[.slice (some ⟨g, 0, none⟩) T.length c] 35)) w9.heap.size g c T :=
  ⟨Blk.new w9 _ _, (hn.mono (fun _ h1 h2 => ⟨h1, Nat.ne_of_lt h2⟩)).below (ba w9 _), al hb _, hb.size⟩
/-- The reference's table, ahead of its box and behind it. -/
theorem ns_free {w W : World} {v : Value} {t : List Nd} {lo d : Nat} (h : NsR (fun b => lo < b) W v t) (h1 : w.heap.size ≤ lo) (hd : W.heap.size ≤ d) : NsR (fun b => w.heap.size ≤ b ∧ b ≠ d) W v t :=
  h.mono (fun b h2 h3 => ⟨by omega, by omega⟩)
theorem ns_over {w W : World} {v : Value} {t : List Nd} {lo d : Nat} (h : NsR (fun b => lo < b) W v t) (h1 : w.heap.size ≤ lo) (hd : d ≤ lo) : NsR (fun b => w.heap.size ≤ b ∧ b ≠ d) W v t :=
  h.mono (fun b h2 h3 => ⟨by omega, by omega⟩)
theorem sam_refl (t : List Nd) : toB (sam24 t t) = true := toB_true (fun _ _ => rfl)
set_option maxHeartbeats 8000000 in
theorem ltakes_any (x0 : Int) (v1 : Value) (l : List Rw) (c : Wh) (A0 : Option Addr) (n0 k0 : Nat) (HPC : PruneC) (s : ByteArray) (op : List Int) (A9 : Option Addr) (n9 k9 : Nat) (xi xd : Int) (w : World) (h1 : RawsR w v1 l) (hl1 : l.length ≤ maxLen) (h2 : IntsR w (.slice A0 n0 k0) c.gs) (h3 : IntsR w (.slice A9 n9 k9) op) :
    Calls Tryz.prog 3 #[.int .i64 x0, v1, .agg #[.int .i64 c.u, .int .i64 c.g, .slice A0 n0 k0], .string s, .slice A9 n9 k9, .int .i64 xi, .int .i64 xd] w fun e w' => e = .returned (.bool true) ∧ Below w.heap.size w w' := by
  have hb0 := ba w (.cells #[.int .i64 c.u, .int .i64 c.g, .slice A0 n0 k0] 25)
  have hk0 := Blk.new w 25 #[.int .i64 c.u, .int .i64 c.g, .slice A0 n0 k0]
  obtain ⟨W1, hW1⟩ : ∃ W1, w.alloc (.cells #[.int .i64 c.u, .int .i64 c.g, .slice A0 n0 k0] 25) = W1 := ⟨_, rfl⟩
  rw [hW1] at hb0 hk0
  have HA := Lib.hid (awk15_any HPC W1)
  have HR := Lib.hid (h1.below hb0)
  have HI := Lib.hid (h2.below hb0)
  have HL := Lib.hid hl1
  have HC0 := Lib.hid h2
  have HO0 := Lib.hid h3
  have hn9 : n9 = op.length := by
    obtain ⟨A', c', hv, -⟩ := h3
    injection hv
  subst hn9
  have HB0 := Lib.hid hb0
  have HK0 := Lib.hid hk0
  clear h1 h2 h3 hl1 hb0 hk0
  go_enter Tryz.func3, Tryz.ntmps3
  go_wp2_with fail
  clear hW1
  refine HA.out.mono ?_
  rintro e w2 ⟨rfl, hb2⟩
  have hk2 := HK0.out.below hb2
  have HB2 := Lib.hid (bt hb2 HB0.out)
  have HK2 := Lib.hid hk2
  have HI2 := Lib.hid (HI.out.below hb2)
  have HBL := Lib.hid (built_any x0 v1 l c A0 n0 k0 w2 (HR.out.below hb2) HL.out HI2.out)
  obtain ⟨k0', k1, k2⟩ := hk2.c3
  clear hb2 HA HK0 HI HR HB0
  go_wp2_with fail
  refine HBL.out.mono ?_
  rintro e w3 ⟨hans, hb3⟩
  have HB3 := Lib.hid (bt hb3 HB2.out)
  have hk3 := HK2.out.below hb3
  have HI3 := Lib.hid (HI2.out.below hb3)
  have hkl := hk2.lt
  clear k0' k1 k2 hb3 HBL hk2
  rcases hans with ⟨rfl, -⟩ | ⟨g, T, rfl, hB, hT, hG⟩
  · clear hk3 hkl
    go_wp2
    go_ret
    exact ⟨rfl, HB3.out⟩
  have HTT := Lib.hid hT
  have HTR := Lib.hid (tre_trx (tre_all hB.2).1)
  have HCR := Lib.hid (show CrR w c A0 n0 k0 from ⟨HC0.out, by have := hB.1.2; omega⟩)
  have HK3 := Lib.hid hk3
  have HGE := Lib.hid (show w.heap.size ≤ g from Nat.le_trans HB2.out.size hG)
  have HKG := Lib.hid (show w.heap.size ≠ g from Nat.ne_of_lt (Nat.lt_of_lt_of_le hkl hG))
  have HGL := Lib.hid hT.lt
  have HOC := Lib.hid (off_of HC0.out HGE.out)
  have HOO := Lib.hid (off_of HO0.out HGE.out)
  obtain ⟨k0', k1, k2⟩ := hk3.c3
  clear hT hB hk3 HK2 HI2 HB2 hG hkl HC0 HI3
  by_cases hc : 100 < s.size
  · have yc : (s.size : Int) > 100 := by omega
    clear hc
    go_wp2
    go_ret
    exact ⟨rfl, HB3.out⟩
  have yc : ¬ (s.size : Int) > 100 := by omega
  by_cases ho : 20 < op.length
  · have yo : (op.length : Int) > 20 := by omega
    clear ho
    go_wp2
    go_ret
    exact ⟨rfl, HB3.out⟩
  have yo : ¬ (op.length : Int) > 20 := by omega
  clear hc
  have hs1000 : (tl s).length ≤ 1000 := by rw [tl_len]; omega
  have hol : op.length ≤ 1000 := by omega
  clear ho
  obtain ⟨BW, hBW⟩ : ∃ b, blwB T xi xd = b := ⟨_, rfl⟩
  have HBL := Lib.hid (fun (W : World) (h : TabR W g T (fun _ => True)) => show Calls Tryz.prog 11 #[.pointer (some ⟨g, 0, none⟩), .int .i64 xi, .int .i64 xd] W fun e w' => e = .returned (.bool BW) ∧ Below W.heap.size W w' from by have h1 := HPC.bl g T (fun _ => True) xi xd W h HTR.out; rw [hBW] at h1; exact h1)
  have HRB := Lib.hid (fun (P : Nat → Prop) (v : Value) (W : World) (h : NsR P W v T) => show Calls Tryz.prog 12 #[.agg #[v], .int .i64 xi, .int .i64 xd] W fun e w' => e = .returned (.bool BW) ∧ Below W.heap.size W w' from by have h1 := rblw_any v T xi xd W h HTT.out.hi HTR.out.ok; rw [hBW] at h1; exact h1)
  clear hBW
  obtain ⟨T1, hT1⟩ : ∃ T1, ulT T c (resM T c (tl s) false) op = T1 := ⟨_, rfl⟩
  obtain ⟨E1, hE1⟩ : ∃ E, ulE T c (resM T c (tl s) false) = E := ⟨_, rfl⟩
  obtain ⟨T2, hT2⟩ : ∃ T2, rdT T c (resM T c (tl s) false) = T2 := ⟨_, rfl⟩
  obtain ⟨E2, hE2⟩ : ∃ E, rdE T c (resM T c (tl s) false) = E := ⟨_, rfl⟩
  obtain ⟨T3, hT3⟩ : ∃ T3, frT T xi op = T3 := ⟨_, rfl⟩
  obtain ⟨B3, hB3⟩ : ∃ B, frB T xi op = B := ⟨_, rfl⟩
  have HP1 := Lib.hid (fun (W : World) (h : TabR W g T (fun _ => True)) (hb : Below w.heap.size w W) => show Calls Tryz.prog 18 #[.pointer (some ⟨g, 0, none⟩), .agg #[.int .i64 c.u, .int .i64 c.g, .slice A0 n0 k0], .string s, .slice A9 op.length k9] W fun e w' => e = .returned (.int .i64 E1) ∧ TabR w' g T1 (fun _ => True) ∧ W.grownBy w' (some g) from by have h1 := HPC.ul g T (fun _ => True) c A0 n0 k0 (tl s) op A9 op.length k9 W h HTR.out (HCR.out.below hb) (HO0.out.below hb) hol HOC.out HOO.out (fun _ _ => trivial); rw [hE1, hT1, bA_tl] at h1; exact h1)
  have HP2 := Lib.hid (fun (u : Nat) (W : World) (h : TabR W u T (fun _ => True)) (hu : w.heap.size ≤ u) (hb : Below w.heap.size w W) => show Calls Tryz.prog 19 #[.pointer (some ⟨u, 0, none⟩), .agg #[.int .i64 c.u, .int .i64 c.g, .slice A0 n0 k0], .string s] W fun e w' => e = .returned (.int .i64 E2) ∧ TabR w' u T2 (fun _ => True) ∧ W.grownBy w' (some u) from by have h1 := HPC.rd u T (fun _ => True) c A0 n0 k0 (tl s) W h HTR.out (HCR.out.below hb) (off_of HCR.out.1 hu) (fun _ _ => trivial); rw [hE2, hT2, bA_tl] at h1; exact h1)
  have HP3 := Lib.hid (fun (v : Nat) (W : World) (h : TabR W v T (fun _ => True)) (hv : w.heap.size ≤ v) (hb : Below w.heap.size w W) => show Calls Tryz.prog 20 #[.pointer (some ⟨v, 0, none⟩), .int .i64 xi, .slice A9 op.length k9] W fun e w' => e = .returned (.bool B3) ∧ TabR w' v T3 (fun _ => True) ∧ W.grownBy w' (some v) from by have h1 := HPC.fr v T (fun _ => True) xi op A9 op.length k9 W h HTR.out (HO0.out.below hb) hol (off_of HO0.out hv) (fun _ _ => trivial); rw [hB3, hT3] at h1; exact h1)
  have HI1 := Lib.hid (fun (W : World) (hb : Below w.heap.size w W) => show Calls Tryz.prog 18 #[.pointer none, .agg #[.int .i64 c.u, .int .i64 c.g, .slice A0 n0 k0], .string s, .slice none 0 0] W fun e w' => ∃ x, e = .returned (.int .i64 x) ∧ x ≠ 0 ∧ Below W.heap.size W w' from by have h1 := HPC.uln c A0 n0 k0 (tl s) W (HCR.out.below hb); rw [bA_tl] at h1; exact h1)
  have HI2 := Lib.hid (fun (W : World) (hb : Below w.heap.size w W) => show Calls Tryz.prog 19 #[.pointer none, .agg #[.int .i64 c.u, .int .i64 c.g, .slice A0 n0 k0], .string s] W fun e w' => ∃ x, e = .returned (.int .i64 x) ∧ x ≠ 0 ∧ Below W.heap.size W w' from by have h1 := HPC.rdn c A0 n0 k0 (tl s) W (HCR.out.below hb); rw [bA_tl] at h1; exact h1)
  have HI3 := Lib.hid (fun (W : World) => HPC.frn xi W)
  have HR1 := Lib.hid (fun (P : Nat → Prop) (v : Value) (W : World) (hn : NsR P W v T) (hb : Below w.heap.size w W) (hP : ∀ b, W.heap.size ≤ b → P b) => show Calls Tryz.prog 14 #[.agg #[v], .agg #[.int .i64 c.u, .int .i64 c.g, .slice A0 n0 k0], .string s, .slice A9 op.length k9] W (TbE P W T1 E1) from by
    have h1 := runlink_any v T c A0 n0 k0 (tl s) op A9 op.length k9 W hn HTT.out.hi HTR.out.ok (HCR.out.below hb) hs1000 (HO0.out.below hb) hol hP
    rw [hT1, hE1, bA_tl] at h1
    exact h1)
  have HR2 := Lib.hid (fun (P : Nat → Prop) (v : Value) (W : World) (hn : NsR P W v T) (hb : Below w.heap.size w W) (hP : ∀ b, W.heap.size ≤ b → P b) => show Calls Tryz.prog 16 #[.agg #[v], .agg #[.int .i64 c.u, .int .i64 c.g, .slice A0 n0 k0], .string s] W (TbE P W T2 E2) from by
    have h1 := rrmdir_any v T c A0 n0 k0 (tl s) W hn HTT.out.hi HTR.out.ok (HCR.out.below hb) hs1000 hP
    rw [hT2, hE2, bA_tl] at h1
    exact h1)
  have HR3 := Lib.hid (fun (P : Nat → Prop) (v : Value) (W : World) (hn : NsR P W v T) (hb : Below w.heap.size w W) (hP : ∀ b, W.heap.size ≤ b → P b) => show Calls Tryz.prog 17 #[.agg #[v], .int .i64 xi, .slice A9 op.length k9] W (TbB P W T3 B3) from by
    have h1 := rfree_any v T xi op A9 op.length k9 W hn HTT.out.hi HTR.out.ok (HO0.out.below hb) hol hP
    rw [hT3, hB3] at h1
    exact h1)
  clear hT1 hE1 hT2 hE2 hT3 hB3 hs1000 hol
  go_wp2_with fail
  refine (clone_any g T (fun _ => True) (fun _ => True) w3 HTT.out (fun _ _ => trivial)).mono ?_
  rintro e w4 ⟨rfl, hu, hb4⟩
  have HUG := Lib.hid (show w3.heap.size ≠ g from Nat.ne_of_gt HGL.out)
  have HKU := Lib.hid (show w.heap.size ≠ w3.heap.size from Nat.ne_of_lt HK3.out.lt)
  have HUL := Lib.hid (show w.heap.size ≤ w3.heap.size from HB3.out.size)
  generalize w3.heap.size = u at hu HUG HKU HUL ⊢
  have HU4 := Lib.hid hu
  have HT4 := Lib.hid (HTT.out.below hb4)
  have HK4 := Lib.hid (HK3.out.below hb4)
  have HB4 := Lib.hid (bt hb4 HB3.out)
  clear hu hb4 k0' k1 k2
  go_wp2_with fail
  refine (clone_any g T (fun _ => True) (fun _ => True) w4 HT4.out (fun _ _ => trivial)).mono ?_
  rintro e w5 ⟨rfl, hv, hb5⟩
  have HVG := Lib.hid (show w4.heap.size ≠ g from Nat.ne_of_gt HT4.out.lt)
  have HVU := Lib.hid (show w4.heap.size ≠ u from Nat.ne_of_gt HU4.out.lt)
  have HKV := Lib.hid (show w.heap.size ≠ w4.heap.size from Nat.ne_of_lt HK4.out.lt)
  have HVL := Lib.hid (show w.heap.size ≤ w4.heap.size from HB4.out.size)
  generalize w4.heap.size = v at hv HVG HVU HKV HVL ⊢
  have HV5 := Lib.hid hv
  have HU5 := Lib.hid (HU4.out.below hb5)
  have HT5 := Lib.hid (HT4.out.below hb5)
  have HK5 := Lib.hid (HK4.out.below hb5)
  have HB5 := Lib.hid (bt hb5 HB4.out)
  clear hv hb5
  go_wp2_with fail
  refine (HBL.out w5 HT5.out).mono ?_
  rintro e w6 ⟨rfl, hb6⟩
  have HV6 := Lib.hid (HV5.out.below hb6)
  have HU6 := Lib.hid (HU5.out.below hb6)
  have HT6 := Lib.hid (HT5.out.below hb6)
  have HK6 := Lib.hid (HK5.out.below hb6)
  have HB6 := Lib.hid (bt hb6 HB5.out)
  clear hb6 HV5 HU5 HT5 HK5 HB5 HU4 HT4 HK4 HB4
  have HTE := Lib.hid (fun (W : World) (hb : Below w6.heap.size w6 W) => tree11_any g T W (HT6.out.below hb))
  go_wp2_with fail
  refine (HTE.out w6 (Below.refl _ _)).mono ?_
  rintro e w7 ⟨g7, c7, rfl, hn7, hb7⟩
  have HRX := Lib.hid (HRB.out _ _ w7 hn7)
  have J7 := Lib.hid hb7
  clear hn7 hb7 HRB HTE
  go_wp2_with fail
  refine HRX.out.mono ?_
  rintro e w8 ⟨rfl, hb8⟩
  have hb := bt hb8 J7.out
  have HT8 := Lib.hid (HT6.out.below hb)
  have HU8 := Lib.hid (HU6.out.below hb)
  have HV8 := Lib.hid (HV6.out.below hb)
  have HK8 := Lib.hid (HK6.out.below hb)
  have HB8 := Lib.hid (bt hb HB6.out)
  have yb : (BW == BW) = true := by simp
  have HMT := Lib.hid HT8.out.lt
  have HMU := Lib.hid HU8.out.lt
  have HMV := Lib.hid HV8.out.lt
  clear hb hb8 J7 HRX HT6 HU6 HV6 HK6 HB6
  have HTE := Lib.hid (fun (W : World) (hb : Below w8.heap.size w8 W) => tree11_any g T W (HT8.out.below hb))
  have HWH := Lib.hid (fun (W : World) => who_any c A0 n0 k0 W)
  have HRC := Lib.hid (show ∀ (P : Nat → Prop) (v : Value) (W : World), NsR P W v T → Below w8.heap.size w8 W → (∀ b, W.heap.size ≤ b → P b) → Calls Tryz.prog 14 #[.agg #[v], .agg #[.int .i64 c.u, .int .i64 c.g, .slice A0 n0 k0], .string s, .slice A9 op.length k9] W fun e w' => ∃ g' c', e = .returned (.tuple #[.agg #[.slice (some ⟨g', 0, none⟩) T1.length c'], .int .i64 E1]) ∧ NsR P w' (.slice (some ⟨g', 0, none⟩) T1.length c') T1 ∧ Below W.heap.size W w' from fun P v W hn hb hP => by
    exact HR1.out P v W hn (bt hb HB8.out) hP)
  have HPQ := Lib.hid (fun (W : World) (hb : Below w8.heap.size w8 W) => show W.cell? ⟨w.heap.size, 0, none⟩ = some (.int .i64 c.u) ∧ W.cell? ⟨w.heap.size, 1, none⟩ = some (.int .i64 c.g) ∧ W.cell? ⟨w.heap.size, 2, none⟩ = some (.slice A0 n0 k0) from (HK8.out.below hb).c3)
  have HDR := Lib.hid (show Below w8.heap.size w8 w8.drew from (Below.refl _ _).drew)
  have HAD := Lib.hid (show Below w8.heap.size w8 (w8.alloc (.cells #[.slice none 0 0] 35)).drew from (ba w8 _).drew)
  go_upto_region 11 with fail
  go_cut [22, 23] (fun sa sc wx => ∃ d g' c' : Nat, sa = .pointer (some ⟨d, 0, none⟩) ∧ sc = .int .i64 E1 ∧ Bt w8 wx d g' c' T1)
  case first =>
    go_region_held3 (fun W => W.cell? ⟨w.heap.size, 0, none⟩ = some (.int .i64 c.u) ∧ W.cell? ⟨w.heap.size, 1, none⟩ = some (.int .i64 c.g) ∧ W.cell? ⟨w.heap.size, 2, none⟩ = some (.slice A0 n0 k0))
      (first | (with_reducible exact HPQ.out _ HDR.out) | (with_reducible exact HPQ.out _ HAD.out) | (with_reducible exact HPQ.out _ HB7.out) | (with_reducible exact HPQ.out _ (al HB7.out _)) | (with_reducible exact HPQ.out _ HB8'.out) | (with_reducible exact HPQ.out _ (al HB8'.out _)) | (with_reducible exact HPQ.out _ HB9.out) | (with_reducible exact HPQ.out _ (al HB9.out _)) | (with_reducible exact ⟨t0, t1, t2⟩))
      (first
      | (go_at_call 13; (with_reducible refine (HTE.out w8.drew HDR.out).mono ?_); rintro e1 qa ⟨g7, c7, rfl, hn7, hb7⟩; have HN7 := Lib.hid hn7; have HB7 := Lib.hid (bt hb7 HDR.out); clear hn7 hb7)
      | (go_at_call 13; (with_reducible refine (HTE.out (w8.alloc (.cells #[.slice none 0 0] 35)).drew HAD.out).mono ?_); rintro e1 qa ⟨g7, c7, rfl, hn7, hb7⟩; have HN7 := Lib.hid hn7; have HB7 := Lib.hid (bt hb7 HAD.out); have HX7 := Lib.hid (show Blk qa w8.heap.size 35 #[.slice none 0 0] from Blk.below (w := (w8.alloc (.cells #[.slice none 0 0] 35)).drew) (Blk.new w8 35 _) hb7); have HP7 := Lib.hid (show NsR (fun b => w8.heap.size ≤ b ∧ b ≠ w8.heap.size) qa (.slice (some ⟨g7, 0, none⟩) T.length c7) T from ns_over hn7 (by simp) (by simp)); clear hn7 hb7)
      | (go_at_call 15; (with_reducible refine (HWH.out qa).mono ?_); rintro e2 qb ⟨rfl, hb8⟩; have HB8' := Lib.hid (bt hb8 HB7.out); have HN8 := Lib.hid (HN7.out.below hb8); first | (have HX8 := Lib.hid (HX7.out.below hb8); have HP8 := Lib.hid (HP7.out.below hb8); clear hb8) | clear hb8)
      | (go_at_call 15; (with_reducible refine (HWH.out (qa.alloc (.cells #[.slice none 0 0] 35))).mono ?_); rintro e2 qb ⟨rfl, hb8⟩; have HB8' := Lib.hid (bt hb8 (al HB7.out _)); have HY8 := Lib.hid (show Blk qb qa.heap.size 35 #[.slice none 0 0] from Blk.below (Blk.new qa 35 _) hb8); have HP8 := Lib.hid (show NsR (fun b => w8.heap.size ≤ b ∧ b ≠ qa.heap.size) qb (.slice (some ⟨g7, 0, none⟩) T.length c7) T from ((ns_free HN7.out (by simp) (Nat.le_refl _)).below (ba qa _)).below hb8); clear hb8)
      | (go_at_call 14; (with_reducible refine (HRC.out _ _ qb HP8.out HB8'.out (fun b hb => ⟨Nat.le_trans HB8'.out.size hb, Nat.ne_of_gt (Nat.lt_of_lt_of_le HX8.out.lt hb)⟩)).mono ?_); rintro e3 qc ⟨g9, c9, rfl, hn9, hb9⟩; have HB9 := Lib.hid (bt hb9 HB8'.out); have HN9 := Lib.hid hn9; have hx9 := HX8.out.below hb9; have HX9 := Lib.hid hx9; have z0 := hx9.cell 0; have f0 := hx9.frozen 0; simp at z0; obtain ⟨t0, t1, t2⟩ := HPQ.out (qc.setCell ⟨w8.heap.size, 0, none⟩ (.slice (some ⟨g9, 0, none⟩) T1.length c9)) (below_grown HB9.out (grown_setCell _ _ _) (Nat.le_refl _)); clear hn9 hb9 hx9)
      | (go_at_call 14; (with_reducible refine (HRC.out _ _ qb HP8.out HB8'.out (fun b hb => ⟨Nat.le_trans HB8'.out.size hb, Nat.ne_of_gt (Nat.lt_of_lt_of_le HY8.out.lt hb)⟩)).mono ?_); rintro e3 qc ⟨g9, c9, rfl, hn9, hb9⟩; have HB9 := Lib.hid (bt hb9 HB8'.out); have HN9 := Lib.hid hn9; have hx9 := HY8.out.below hb9; have HY9 := Lib.hid hx9; have z0 := hx9.cell 0; have f0 := hx9.frozen 0; simp at z0; obtain ⟨t0, t1, t2⟩ := HPQ.out (qc.setCell ⟨qa.heap.size, 0, none⟩ (.slice (some ⟨g9, 0, none⟩) T1.length c9)) (below_grown HB9.out (grown_setCell _ _ _) HB7.out.size); clear hn9 hb9 hx9)
      | (go_at_call 14; (with_reducible refine (HRC.out (fun b => w8.heap.size ≤ b) _ qb (HN8.out.mono (fun b h1 _ => by have := (show w8.drew.heap.size = w8.heap.size from by simp); omega)) HB8'.out (fun b hb => Nat.le_trans HB8'.out.size hb)).mono ?_); rintro e3 qc ⟨g9, c9, rfl, hn9, hb9⟩; have HB9 := Lib.hid (bt hb9 HB8'.out); have HN9 := Lib.hid hn9; clear hn9 hb9)
      | (go_at_call 14; (with_reducible refine (HRC.out (fun b => w8.heap.size ≤ b ∧ b ≠ qb.heap.size) _ (qb.alloc (.cells #[.slice none 0 0] 35)) ((ns_free HN8.out (by simp) (Nat.le_refl _)).below (ba qb _)) (al HB8'.out _) (fun b hb => ⟨Nat.le_trans (al HB8'.out _).size hb, Nat.ne_of_gt (Nat.lt_of_lt_of_le (by simp) hb)⟩)).mono ?_); rintro e3 qc ⟨g9, c9, rfl, hn9, hb9⟩; have HB9 := Lib.hid (bt hb9 (al HB8'.out _)); have HN9 := Lib.hid hn9; have hx9 := Blk.below (Blk.new qb 35 #[.slice none 0 0]) hb9; have HZ9 := Lib.hid hx9; have z0 := hx9.cell 0; have f0 := hx9.frozen 0; simp at z0; obtain ⟨t0, t1, t2⟩ := HPQ.out (qc.setCell ⟨qb.heap.size, 0, none⟩ (.slice (some ⟨g9, 0, none⟩) T1.length c9)) (below_grown HB9.out (grown_setCell _ _ _) HB8'.out.size); clear hn9 hb9 hx9))
    all_goals (
      go_wp2
      go_meet
      first
        | with_reducible exact ⟨_, _, _, rfl, rfl, Bt.put HX9.out HN9.out HB9.out (Nat.le_refl _)⟩
        | with_reducible exact ⟨_, _, _, rfl, rfl, Bt.put HY9.out HN9.out HB9.out HB7.out.size⟩
        | with_reducible exact ⟨_, _, _, rfl, rfl, Bt.put HZ9.out HN9.out HB9.out HB8'.out.size⟩
        | exact ⟨_, _, _, rfl, rfl, Bt.fresh HN9.out HB9.out⟩)
  case rest =>
  obtain ⟨dd10, gg10, cc10, rfl, rfl, hbx⟩ := hcut
  obtain ⟨W10, hW10⟩ : ∃ W, wc = W := ⟨_, rfl⟩
  rw [hW10] at hbx ⊢
  have HX10 := Lib.hid hbx.blk
  have HL10 := Lib.hid hbx.lo
  have HN10 := Lib.hid hbx.ns
  have HT10 := Lib.hid (HT8.out.below hbx.below)
  have HU10 := Lib.hid (HU8.out.below hbx.below)
  have HV10 := Lib.hid (HV8.out.below hbx.below)
  have HK10 := Lib.hid (HK8.out.below hbx.below)
  have HB10 := Lib.hid (bt hbx.below HB8.out)
  have HS10 := Lib.hid (show w8.heap.size ≤ w8.heap.size from Nat.le_refl _)
  have HQ10 := Lib.hid (show Below w8.heap.size w8 W10 from hbx.below)
  clear hbx hW10 HPQ HDR HAD HRC HWH HTE HT8 HU8 HV8 HK8 HB8
  have HTE := Lib.hid (fun (W : World) (hb : Below W10.heap.size W10 W) => tree11_any g T W (HT10.out.below hb))
  have HWH := Lib.hid (fun (W : World) => who_any c A0 n0 k0 W)
  have HRC := Lib.hid (show ∀ (P : Nat → Prop) (v : Value) (W : World), NsR P W v T → Below W10.heap.size W10 W → (∀ b, W.heap.size ≤ b → P b) → Calls Tryz.prog 16 #[.agg #[v], .agg #[.int .i64 c.u, .int .i64 c.g, .slice A0 n0 k0], .string s] W fun e w' => ∃ g' c', e = .returned (.tuple #[.agg #[.slice (some ⟨g', 0, none⟩) T2.length c'], .int .i64 E2]) ∧ NsR P w' (.slice (some ⟨g', 0, none⟩) T2.length c') T2 ∧ Below W.heap.size W w' from fun P v W hn hb hP => by
    exact HR2.out P v W hn (bt hb HB10.out) hP)
  have HPQ := Lib.hid (fun (W : World) (hb : Below W10.heap.size W10 W) => show W.cell? ⟨w.heap.size, 0, none⟩ = some (.int .i64 c.u) ∧ W.cell? ⟨w.heap.size, 1, none⟩ = some (.int .i64 c.g) ∧ W.cell? ⟨w.heap.size, 2, none⟩ = some (.slice A0 n0 k0) from (HK10.out.below hb).c3)
  have HDR := Lib.hid (show Below W10.heap.size W10 W10.drew from (Below.refl _ _).drew)
  have HAD := Lib.hid (show Below W10.heap.size W10 (W10.alloc (.cells #[.slice none 0 0] 35)).drew from (ba W10 _).drew)
  go_upto_region 12 with fail
  go_cut [24, 25] (fun sa sc wx => ∃ d g' c' : Nat, sa = .pointer (some ⟨d, 0, none⟩) ∧ sc = .int .i64 E2 ∧ Bt W10 wx d g' c' T2)
  case first =>
    go_region_held3 (fun W => W.cell? ⟨w.heap.size, 0, none⟩ = some (.int .i64 c.u) ∧ W.cell? ⟨w.heap.size, 1, none⟩ = some (.int .i64 c.g) ∧ W.cell? ⟨w.heap.size, 2, none⟩ = some (.slice A0 n0 k0))
      (first | (with_reducible exact HPQ.out _ HDR.out) | (with_reducible exact HPQ.out _ HAD.out) | (with_reducible exact HPQ.out _ HB7.out) | (with_reducible exact HPQ.out _ (al HB7.out _)) | (with_reducible exact HPQ.out _ HB8'.out) | (with_reducible exact HPQ.out _ (al HB8'.out _)) | (with_reducible exact HPQ.out _ HB9.out) | (with_reducible exact HPQ.out _ (al HB9.out _)) | (with_reducible exact ⟨t0, t1, t2⟩))
      (first
      | (go_at_call 13; (with_reducible refine (HTE.out W10.drew HDR.out).mono ?_); rintro e1 qa ⟨g7, c7, rfl, hn7, hb7⟩; have HN7 := Lib.hid hn7; have HB7 := Lib.hid (bt hb7 HDR.out); clear hn7 hb7)
      | (go_at_call 13; (with_reducible refine (HTE.out (W10.alloc (.cells #[.slice none 0 0] 35)).drew HAD.out).mono ?_); rintro e1 qa ⟨g7, c7, rfl, hn7, hb7⟩; have HN7 := Lib.hid hn7; have HB7 := Lib.hid (bt hb7 HAD.out); have HX7 := Lib.hid (show Blk qa W10.heap.size 35 #[.slice none 0 0] from Blk.below (w := (W10.alloc (.cells #[.slice none 0 0] 35)).drew) (Blk.new W10 35 _) hb7); have HP7 := Lib.hid (show NsR (fun b => W10.heap.size ≤ b ∧ b ≠ W10.heap.size) qa (.slice (some ⟨g7, 0, none⟩) T.length c7) T from ns_over hn7 (by simp) (by simp)); clear hn7 hb7)
      | (go_at_call 15; (with_reducible refine (HWH.out qa).mono ?_); rintro e2 qb ⟨rfl, hb8⟩; have HB8' := Lib.hid (bt hb8 HB7.out); have HN8 := Lib.hid (HN7.out.below hb8); first | (have HX8 := Lib.hid (HX7.out.below hb8); have HP8 := Lib.hid (HP7.out.below hb8); clear hb8) | clear hb8)
      | (go_at_call 15; (with_reducible refine (HWH.out (qa.alloc (.cells #[.slice none 0 0] 35))).mono ?_); rintro e2 qb ⟨rfl, hb8⟩; have HB8' := Lib.hid (bt hb8 (al HB7.out _)); have HY8 := Lib.hid (show Blk qb qa.heap.size 35 #[.slice none 0 0] from Blk.below (Blk.new qa 35 _) hb8); have HP8 := Lib.hid (show NsR (fun b => W10.heap.size ≤ b ∧ b ≠ qa.heap.size) qb (.slice (some ⟨g7, 0, none⟩) T.length c7) T from ((ns_free HN7.out (by simp) (Nat.le_refl _)).below (ba qa _)).below hb8); clear hb8)
      | (go_at_call 16; (with_reducible refine (HRC.out _ _ qb HP8.out HB8'.out (fun b hb => ⟨Nat.le_trans HB8'.out.size hb, Nat.ne_of_gt (Nat.lt_of_lt_of_le HX8.out.lt hb)⟩)).mono ?_); rintro e3 qc ⟨g9, c9, rfl, hn9, hb9⟩; have HB9 := Lib.hid (bt hb9 HB8'.out); have HN9 := Lib.hid hn9; have hx9 := HX8.out.below hb9; have HX9 := Lib.hid hx9; have z0 := hx9.cell 0; have f0 := hx9.frozen 0; simp at z0; obtain ⟨t0, t1, t2⟩ := HPQ.out (qc.setCell ⟨W10.heap.size, 0, none⟩ (.slice (some ⟨g9, 0, none⟩) T2.length c9)) (below_grown HB9.out (grown_setCell _ _ _) (Nat.le_refl _)); clear hn9 hb9 hx9)
      | (go_at_call 16; (with_reducible refine (HRC.out _ _ qb HP8.out HB8'.out (fun b hb => ⟨Nat.le_trans HB8'.out.size hb, Nat.ne_of_gt (Nat.lt_of_lt_of_le HY8.out.lt hb)⟩)).mono ?_); rintro e3 qc ⟨g9, c9, rfl, hn9, hb9⟩; have HB9 := Lib.hid (bt hb9 HB8'.out); have HN9 := Lib.hid hn9; have hx9 := HY8.out.below hb9; have HY9 := Lib.hid hx9; have z0 := hx9.cell 0; have f0 := hx9.frozen 0; simp at z0; obtain ⟨t0, t1, t2⟩ := HPQ.out (qc.setCell ⟨qa.heap.size, 0, none⟩ (.slice (some ⟨g9, 0, none⟩) T2.length c9)) (below_grown HB9.out (grown_setCell _ _ _) HB7.out.size); clear hn9 hb9 hx9)
      | (go_at_call 16; (with_reducible refine (HRC.out (fun b => W10.heap.size ≤ b) _ qb (HN8.out.mono (fun b h1 _ => by have := (show W10.drew.heap.size = W10.heap.size from by simp); omega)) HB8'.out (fun b hb => Nat.le_trans HB8'.out.size hb)).mono ?_); rintro e3 qc ⟨g9, c9, rfl, hn9, hb9⟩; have HB9 := Lib.hid (bt hb9 HB8'.out); have HN9 := Lib.hid hn9; clear hn9 hb9)
      | (go_at_call 16; (with_reducible refine (HRC.out (fun b => W10.heap.size ≤ b ∧ b ≠ qb.heap.size) _ (qb.alloc (.cells #[.slice none 0 0] 35)) ((ns_free HN8.out (by simp) (Nat.le_refl _)).below (ba qb _)) (al HB8'.out _) (fun b hb => ⟨Nat.le_trans (al HB8'.out _).size hb, Nat.ne_of_gt (Nat.lt_of_lt_of_le (by simp) hb)⟩)).mono ?_); rintro e3 qc ⟨g9, c9, rfl, hn9, hb9⟩; have HB9 := Lib.hid (bt hb9 (al HB8'.out _)); have HN9 := Lib.hid hn9; have hx9 := Blk.below (Blk.new qb 35 #[.slice none 0 0]) hb9; have HZ9 := Lib.hid hx9; have z0 := hx9.cell 0; have f0 := hx9.frozen 0; simp at z0; obtain ⟨t0, t1, t2⟩ := HPQ.out (qc.setCell ⟨qb.heap.size, 0, none⟩ (.slice (some ⟨g9, 0, none⟩) T2.length c9)) (below_grown HB9.out (grown_setCell _ _ _) HB8'.out.size); clear hn9 hb9 hx9))
    all_goals (
      go_wp2
      go_meet
      first
        | with_reducible exact ⟨_, _, _, rfl, rfl, Bt.put HX9.out HN9.out HB9.out (Nat.le_refl _)⟩
        | with_reducible exact ⟨_, _, _, rfl, rfl, Bt.put HY9.out HN9.out HB9.out HB7.out.size⟩
        | with_reducible exact ⟨_, _, _, rfl, rfl, Bt.put HZ9.out HN9.out HB9.out HB8'.out.size⟩
        | exact ⟨_, _, _, rfl, rfl, Bt.fresh HN9.out HB9.out⟩)
  case rest =>
  obtain ⟨dd11, gg11, cc11, rfl, rfl, hbx⟩ := hcut
  obtain ⟨W11, hW11⟩ : ∃ W, wc = W := ⟨_, rfl⟩
  rw [hW11] at hbx ⊢
  have HX11 := Lib.hid hbx.blk
  have HL11 := Lib.hid hbx.lo
  have HN11 := Lib.hid hbx.ns
  have HT11 := Lib.hid (HT10.out.below hbx.below)
  have HU11 := Lib.hid (HU10.out.below hbx.below)
  have HV11 := Lib.hid (HV10.out.below hbx.below)
  have HK11 := Lib.hid (HK10.out.below hbx.below)
  have HB11 := Lib.hid (bt hbx.below HB10.out)
  have HS11 := Lib.hid (show w8.heap.size ≤ W10.heap.size from HQ10.out.size)
  have HQ11 := Lib.hid (show Below w8.heap.size w8 W11 from bt hbx.below HQ10.out)
  have HX10' := Lib.hid (HX10.out.below hbx.below)
  have HN10' := Lib.hid (HN10.out.below hbx.below)
  clear HX10 HN10
  have HX10 := Lib.hid HX10'.out
  have HN10 := Lib.hid HN10'.out
  clear HX10' HN10'
  clear HQ10
  clear hbx hW11 HPQ HDR HAD HRC HWH HTE HT10 HU10 HV10 HK10 HB10
  have HTE := Lib.hid (fun (W : World) (hb : Below W11.heap.size W11 W) => tree11_any g T W (HT11.out.below hb))
  obtain ⟨k0', k1, k2⟩ := HK11.out.c3
  go_wp2_with fail
  refine (HTE.out W11 (Below.refl _ _)).mono ?_
  rintro e qa ⟨g7, c7, rfl, hn7, hb7⟩
  have HR := Lib.hid (HR3.out (fun b => W11.heap.size ≤ b) _ qa (hn7.mono (fun b h1 _ => Nat.le_of_lt h1)) (bt hb7 HB11.out) (fun b hb => Nat.le_trans hb7.size hb))
  have J7 := Lib.hid hb7
  clear hn7 hb7 k0' k1 k2 HTE
  go_wp2_with fail
  refine HR.out.mono ?_
  rintro e qc ⟨gg12, cc12, rfl, hn9, hb9⟩
  have hbx := Bt.fresh hn9 (bt hb9 J7.out)
  obtain ⟨W12, hW12⟩ : ∃ W, qc.alloc (.cells #[.slice (some ⟨gg12, 0, none⟩) T3.length cc12] 35) = W := ⟨_, rfl⟩
  obtain ⟨dd12, hdd⟩ : ∃ z, qc.heap.size = z := ⟨_, rfl⟩
  rw [hW12, hdd] at hbx
  have HX12 := Lib.hid hbx.blk
  have HL12 := Lib.hid hbx.lo
  have HN12 := Lib.hid hbx.ns
  have HT12 := Lib.hid (HT11.out.below hbx.below)
  have HU12 := Lib.hid (HU11.out.below hbx.below)
  have HV12 := Lib.hid (HV11.out.below hbx.below)
  have HK12 := Lib.hid (HK11.out.below hbx.below)
  have HB12 := Lib.hid (bt hbx.below HB11.out)
  have HS12 := Lib.hid (show w8.heap.size ≤ W11.heap.size from HQ11.out.size)
  have HX10' := Lib.hid (HX10.out.below hbx.below)
  have HN10' := Lib.hid (HN10.out.below hbx.below)
  have HX11' := Lib.hid (HX11.out.below hbx.below)
  have HN11' := Lib.hid (HN11.out.below hbx.below)
  obtain ⟨k0', k1, k2⟩ := HK12.out.c3
  clear hn9 hb9 hbx HR J7 HX10 HN10 HX11 HN11 HT11 HU11 HV11 HK11 HB11 HQ11
  have HX10 := Lib.hid HX10'.out
  have HN10 := Lib.hid HN10'.out
  have HX11 := Lib.hid HX11'.out
  have HN11 := Lib.hid HN11'.out
  clear HX10' HN10' HX11' HN11'
  go_wp2_with fail
  clear hW12 hdd
  refine (HP1.out W12 HT12.out HB12.out).mono ?_
  rintro e W13 ⟨rfl, ht, hgr⟩
  obtain ⟨tcs, htc, -⟩ := HT12.out.blk
  have HT13 := Lib.hid ht
  have HU13 := Lib.hid (HU12.out.kind hgr HUG.out htc (by decide) (by decide))
  have HV13 := Lib.hid (HV12.out.kind hgr HVG.out htc (by decide) (by decide))
  have HK13 := Lib.hid (HK12.out.kept hgr (some_ne HKG.out))
  have HB13 := Lib.hid (grown_bl HB12.out hgr HGE.out)
  have HY10 := Lib.hid (HX10.out.kept hgr (some_ne (show dd10 ≠ g from by have h1 := HL10.out; have h2 := HMT.out; have h3 : w8.heap.size ≤ w8.heap.size := (Nat.le_refl _); omega)))
  have HZ10 := Lib.hid (HN10.out.other hgr (fun b hb => by have h1 := hb.1; have h2 := HMT.out; have h3 : w8.heap.size ≤ w8.heap.size := (Nat.le_refl _); omega))
  have HY11 := Lib.hid (HX11.out.kept hgr (some_ne (show dd11 ≠ g from by have h1 := HL11.out; have h2 := HMT.out; have h3 : w8.heap.size ≤ W10.heap.size := HS11.out; omega)))
  have HZ11 := Lib.hid (HN11.out.other hgr (fun b hb => by have h1 := hb.1; have h2 := HMT.out; have h3 : w8.heap.size ≤ W10.heap.size := HS11.out; omega))
  have HY12 := Lib.hid (HX12.out.kept hgr (some_ne (show dd12 ≠ g from by have h1 := HL12.out; have h2 := HMT.out; have h3 : w8.heap.size ≤ W11.heap.size := HS12.out; omega)))
  have HZ12 := Lib.hid (HN12.out.other hgr (fun b hb => by have h1 := hb.1; have h2 := HMT.out; have h3 : w8.heap.size ≤ W11.heap.size := HS12.out; omega))
  clear ht hgr htc k0' k1 k2 HX10 HN10 HX11 HN11 HX12 HN12 HT12 HU12 HV12 HK12 HB12
  have HX10 := Lib.hid HY10.out
  have HN10 := Lib.hid HZ10.out
  clear HY10 HZ10
  have HX11 := Lib.hid HY11.out
  have HN11 := Lib.hid HZ11.out
  clear HY11 HZ11
  have HX12 := Lib.hid HY12.out
  have HN12 := Lib.hid HZ12.out
  clear HY12 HZ12
  obtain ⟨k0', k1, k2⟩ := HK13.out.c3
  go_wp2_with fail
  refine (HP2.out u W13 HU13.out HUL.out HB13.out).mono ?_
  rintro e W14 ⟨rfl, ht, hgr⟩
  obtain ⟨tcs, htc, -⟩ := HU13.out.blk
  have HT14 := Lib.hid (HT13.out.kind hgr (fun q => HUG.out q.symm) htc (by decide) (by decide))
  have HU14 := Lib.hid ht
  have HV14 := Lib.hid (HV13.out.kind hgr HVU.out htc (by decide) (by decide))
  have HK14 := Lib.hid (HK13.out.kept hgr (some_ne HKU.out))
  have HB14 := Lib.hid (grown_bl HB13.out hgr HUL.out)
  have HY10 := Lib.hid (HX10.out.kept hgr (some_ne (show dd10 ≠ u from by have h1 := HL10.out; have h2 := HMU.out; have h3 : w8.heap.size ≤ w8.heap.size := (Nat.le_refl _); omega)))
  have HZ10 := Lib.hid (HN10.out.other hgr (fun b hb => by have h1 := hb.1; have h2 := HMU.out; have h3 : w8.heap.size ≤ w8.heap.size := (Nat.le_refl _); omega))
  have HY11 := Lib.hid (HX11.out.kept hgr (some_ne (show dd11 ≠ u from by have h1 := HL11.out; have h2 := HMU.out; have h3 : w8.heap.size ≤ W10.heap.size := HS11.out; omega)))
  have HZ11 := Lib.hid (HN11.out.other hgr (fun b hb => by have h1 := hb.1; have h2 := HMU.out; have h3 : w8.heap.size ≤ W10.heap.size := HS11.out; omega))
  have HY12 := Lib.hid (HX12.out.kept hgr (some_ne (show dd12 ≠ u from by have h1 := HL12.out; have h2 := HMU.out; have h3 : w8.heap.size ≤ W11.heap.size := HS12.out; omega)))
  have HZ12 := Lib.hid (HN12.out.other hgr (fun b hb => by have h1 := hb.1; have h2 := HMU.out; have h3 : w8.heap.size ≤ W11.heap.size := HS12.out; omega))
  clear ht hgr htc k0' k1 k2 HX10 HN10 HX11 HN11 HX12 HN12 HT13 HU13 HV13 HK13 HB13
  have HX10 := Lib.hid HY10.out
  have HN10 := Lib.hid HZ10.out
  clear HY10 HZ10
  have HX11 := Lib.hid HY11.out
  have HN11 := Lib.hid HZ11.out
  clear HY11 HZ11
  have HX12 := Lib.hid HY12.out
  have HN12 := Lib.hid HZ12.out
  clear HY12 HZ12
  obtain ⟨k0', k1, k2⟩ := HK14.out.c3
  go_wp2_with fail
  refine (HP3.out v W14 HV14.out HVL.out HB14.out).mono ?_
  rintro e W15 ⟨rfl, ht, hgr⟩
  obtain ⟨tcs, htc, -⟩ := HV14.out.blk
  have HT15 := Lib.hid (HT14.out.kind hgr (fun q => HVG.out q.symm) htc (by decide) (by decide))
  have HU15 := Lib.hid (HU14.out.kind hgr (fun q => HVU.out q.symm) htc (by decide) (by decide))
  have HV15 := Lib.hid ht
  have HK15 := Lib.hid (HK14.out.kept hgr (some_ne HKV.out))
  have HB15 := Lib.hid (grown_bl HB14.out hgr HVL.out)
  have HY10 := Lib.hid (HX10.out.kept hgr (some_ne (show dd10 ≠ v from by have h1 := HL10.out; have h2 := HMV.out; have h3 : w8.heap.size ≤ w8.heap.size := (Nat.le_refl _); omega)))
  have HZ10 := Lib.hid (HN10.out.other hgr (fun b hb => by have h1 := hb.1; have h2 := HMV.out; have h3 : w8.heap.size ≤ w8.heap.size := (Nat.le_refl _); omega))
  have HY11 := Lib.hid (HX11.out.kept hgr (some_ne (show dd11 ≠ v from by have h1 := HL11.out; have h2 := HMV.out; have h3 : w8.heap.size ≤ W10.heap.size := HS11.out; omega)))
  have HZ11 := Lib.hid (HN11.out.other hgr (fun b hb => by have h1 := hb.1; have h2 := HMV.out; have h3 : w8.heap.size ≤ W10.heap.size := HS11.out; omega))
  have HY12 := Lib.hid (HX12.out.kept hgr (some_ne (show dd12 ≠ v from by have h1 := HL12.out; have h2 := HMV.out; have h3 : w8.heap.size ≤ W11.heap.size := HS12.out; omega)))
  have HZ12 := Lib.hid (HN12.out.other hgr (fun b hb => by have h1 := hb.1; have h2 := HMV.out; have h3 : w8.heap.size ≤ W11.heap.size := HS12.out; omega))
  clear ht hgr htc k0' k1 k2 HX10 HN10 HX11 HN11 HX12 HN12 HT14 HU14 HV14 HK14 HB14
  have HX10 := Lib.hid HY10.out
  have HN10 := Lib.hid HZ10.out
  clear HY10 HZ10
  have HX11 := Lib.hid HY11.out
  have HN11 := Lib.hid HZ11.out
  clear HY11 HZ11
  have HX12 := Lib.hid HY12.out
  have HN12 := Lib.hid HZ12.out
  clear HY12 HZ12
  obtain ⟨k0', k1, k2⟩ := HK15.out.c3
  have HPZ := Lib.hid (fun (W : World) (hb : Below W15.heap.size W15 W) => show W.cell? ⟨dd10, 0, none⟩ = some (.slice (some ⟨gg10, 0, none⟩) T1.length cc10) ∧ W.cell? ⟨dd11, 0, none⟩ = some (.slice (some ⟨gg11, 0, none⟩) T2.length cc11) ∧ W.cell? ⟨dd12, 0, none⟩ = some (.slice (some ⟨gg12, 0, none⟩) T3.length cc12) ∧ W.cell? ⟨w.heap.size, 0, none⟩ = some (.int .i64 c.u) ∧ W.cell? ⟨w.heap.size, 1, none⟩ = some (.int .i64 c.g) ∧ W.cell? ⟨w.heap.size, 2, none⟩ = some (.slice A0 n0 k0) from ⟨(HX10.out.below hb).cell 0, (HX11.out.below hb).cell 0, (HX12.out.below hb).cell 0, (HK15.out.below hb).c3⟩)
  have HDR := Lib.hid (show Below W15.heap.size W15 W15.drew from (Below.refl _ _).drew)
  have HTE1 := Lib.hid (fun (W : World) (hb : Below W15.heap.size W15 W) => tree11_any g T1 W (HT15.out.below hb))
  have HTE2 := Lib.hid (fun (W : World) (hb : Below W15.heap.size W15 W) => tree11_any u T2 W (HU15.out.below hb))
  have HTE3 := Lib.hid (fun (W : World) (hb : Below W15.heap.size W15 W) => tree11_any v T3 W (HV15.out.below hb))
  have HSM1 := Lib.hid (show ∀ (P P' : Nat → Prop) (va vb : Value) (W : World), NsR P W va T1 → NsR P' W vb T1 → Calls Tryz.prog 21 #[.agg #[va], .agg #[vb]] W fun e w' => e = .returned (.bool true) ∧ Below W.heap.size W w' from fun P P' va vb W h1 h2 => by have h := rtsame_any va vb T1 T1 W h1 h2 HT15.out.hi HT15.out.hi HT15.out.ok HT15.out.ok; rw [sam_refl] at h; exact h)
  have HSM2 := Lib.hid (show ∀ (P P' : Nat → Prop) (va vb : Value) (W : World), NsR P W va T2 → NsR P' W vb T2 → Calls Tryz.prog 21 #[.agg #[va], .agg #[vb]] W fun e w' => e = .returned (.bool true) ∧ Below W.heap.size W w' from fun P P' va vb W h1 h2 => by have h := rtsame_any va vb T2 T2 W h1 h2 HU15.out.hi HU15.out.hi HU15.out.ok HU15.out.ok; rw [sam_refl] at h; exact h)
  have HSM3 := Lib.hid (show ∀ (P P' : Nat → Prop) (va vb : Value) (W : World), NsR P W va T3 → NsR P' W vb T3 → Calls Tryz.prog 21 #[.agg #[va], .agg #[vb]] W fun e w' => e = .returned (.bool true) ∧ Below W.heap.size W w' from fun P P' va vb W h1 h2 => by have h := rtsame_any va vb T3 T3 W h1 h2 HV15.out.hi HV15.out.hi HV15.out.ok HV15.out.ok; rw [sam_refl] at h; exact h)
  have y1 : (E1 == E1) = true := by simp
  have y2 : (E2 == E2) = true := by simp
  have y3 : (B3 == B3) = true := by simp
  go_upto_region 17 with fail
  go_region_held3 (fun W => W.cell? ⟨dd10, 0, none⟩ = some (.slice (some ⟨gg10, 0, none⟩) T1.length cc10) ∧ W.cell? ⟨dd11, 0, none⟩ = some (.slice (some ⟨gg11, 0, none⟩) T2.length cc11) ∧ W.cell? ⟨dd12, 0, none⟩ = some (.slice (some ⟨gg12, 0, none⟩) T3.length cc12) ∧ W.cell? ⟨w.heap.size, 0, none⟩ = some (.int .i64 c.u) ∧ W.cell? ⟨w.heap.size, 1, none⟩ = some (.int .i64 c.g) ∧ W.cell? ⟨w.heap.size, 2, none⟩ = some (.slice A0 n0 k0))
    (first | (with_reducible exact HPZ.out _ HDR.out) | (with_reducible exact HPZ.out _ Jx1.out) | (with_reducible exact HPZ.out _ Jx2.out) | (with_reducible exact HPZ.out _ Jx3.out) | (with_reducible exact HPZ.out _ Jx4.out) | (with_reducible exact HPZ.out _ Jx5.out) | (with_reducible exact HPZ.out _ Jx6.out) | (with_reducible exact HPZ.out _ Jx7.out) | (with_reducible exact HPZ.out _ Jx8.out) | (with_reducible exact HPZ.out _ Jx9.out))
    (first
    | (go_at_call 13; (with_reducible refine (HTE1.out W15.drew HDR.out).mono ?_); rintro e1 x1 ⟨ga1, ca1, rfl, hn1, h1⟩; have N1 := Lib.hid hn1; have Jx1 := Lib.hid (bt h1 HDR.out); clear hn1 h1)
    | (go_at_call 21; (with_reducible refine (HSM1.out _ _ _ _ x1 N1.out (HN10.out.below Jx1.out)).mono ?_); rintro e2 x2 ⟨rfl, h2⟩; have Jx2 := Lib.hid (bt h2 Jx1.out); clear h2)
    | (go_at_call 13; (with_reducible refine (HTE2.out x2 Jx2.out).mono ?_); rintro e1 x3 ⟨ga2, ca2, rfl, hn1, h1⟩; have N2 := Lib.hid hn1; have Jx3 := Lib.hid (bt h1 Jx2.out); clear hn1 h1)
    | (go_at_call 21; (with_reducible refine (HSM2.out _ _ _ _ x3 N2.out (HN11.out.below Jx3.out)).mono ?_); rintro e2 x4 ⟨rfl, h2⟩; have Jx4 := Lib.hid (bt h2 Jx3.out); clear h2)
    | (go_at_call 13; (with_reducible refine (HTE3.out x4 Jx4.out).mono ?_); rintro e1 x5 ⟨ga3, ca3, rfl, hn1, h1⟩; have N3 := Lib.hid hn1; have Jx5 := Lib.hid (bt h1 Jx4.out); clear hn1 h1)
    | (go_at_call 21; (with_reducible refine (HSM3.out _ _ _ _ x5 N3.out (HN12.out.below Jx5.out)).mono ?_); rintro e2 x6 ⟨rfl, h2⟩; have Jx6 := Lib.hid (bt h2 Jx5.out); clear h2)
    | (go_at_call 18; (with_reducible refine (HI1.out x6 (bt Jx6.out HB15.out)).mono ?_); rintro e3 x7 ⟨z1, rfl, hz, h3⟩; have yz1 : (z1 != 0) = true := (by simpa using hz); have Jx7 := Lib.hid (bt h3 Jx6.out); clear h3 hz)
    | (go_at_call 19; (with_reducible refine (HI2.out x7 (bt Jx7.out HB15.out)).mono ?_); rintro e3 x8 ⟨z2, rfl, hz, h3⟩; have yz2 : (z2 != 0) = true := (by simpa using hz); have Jx8 := Lib.hid (bt h3 Jx7.out); clear h3 hz)
    | (go_at_call 20; (with_reducible refine (HI3.out x8).mono ?_); rintro e3 x9 ⟨rfl, h3⟩; have Jx9 := Lib.hid (bt h3 Jx8.out); clear h3))
  all_goals (
    go_wp2
    go_ret
    exact ⟨ret_bool (by first | rfl | simp_all), bt Jx9.out HB15.out⟩)
end Go.Proofs.YtiimdmbalnhmmaaGreat
